/- A closed call is worked out by a program of its own: code, calls, and what it is for: a call on values that are the same in every world. -/
import Derived.Test.YtopjcpdhfohccaaEvL
import Derived.RowKit
namespace Go.Ev
open Go.RowKit

def Ex.to : Ex → Exit
  | .normal => .normal
  | .exit id => .exit id
  | .ret => .ret

/-- What the working out of code must do. -/
def CodeOK [Ctxt] (P : Program) (lim : Nat) (c : Code) (T : Fr) (M : Mem) (ex : Ex) (T' : Fr) (M' : Mem) : Prop :=
  ∀ (e : Env) (a : Act) (w : World), DT e T a → a.defers = [] → Rep e M w → (Ctxt.pin ≤ lim ∧ lim ≤ M.next) → (∀ i, M.next ≤ i → i < M'.next → e i = none) →
    ∀ (Q : Exit → Act → World → Prop), (∀ e' a' w', DT e' T' a' → a'.defers = [] → Post lim e M w e' M' w' → Q ex.to a' w') → c.wp P Q a w

def SelfOK [Ctxt] (P : Program) (self : Nat → Code → Ev1) : Prop :=
  ∀ lim c T M ex T' M', self lim c T M = some (ex, T', M') → M.next ≤ M'.next ∧ CodeOK P lim c T M ex T' M'

section
variable {P : Program}

theorem lookF_indexed [Ctxt] {l : List CV} : ∀ (i j : Nat), lookF (indexedFrom i l) j = if i ≤ j then l.getD (j - i) (.clo undef) else .clo undef := by
  induction l with
  | nil => intro i j; simp [indexedFrom, lookF]
  | cons v r ih =>
    intro i j
    rw [indexedFrom, lookF_cons, ih]
    by_cases h : i = j
    · subst h; simp
    · rw [if_neg h]
      by_cases hij : i ≤ j
      · rw [if_pos hij, if_pos (by omega), show j - i = (j - (i + 1)) + 1 by omega]; simp
      · rw [if_neg hij, if_neg (by omega)]

theorem mkFr_n (n : Nat) (l : List CV) : (mkFr n l).n = n := by cases n <;> rfl
theorem mkFr_l (n : Nat) (l : List CV) : (mkFr n l).l = indexedFrom 0 l := by cases n <;> rfl

theorem DT.start [Ctxt] {e : Env} {args : List CV} {xs : List Value} (h : denL e args = some xs) (n : Nat) : DT e (mkFr (max n args.length) args) { tmps := xs.toArray ++ Array.replicate (n - xs.toArray.size) undef, defers := [] } := by
  have hl := denL_length h
  refine ⟨by rw [mkFr_n]; simp; omega, fun i => ?_⟩
  simp only [Fr.get, mkFr_l, lookF_indexed, Nat.zero_le, if_true, Nat.sub_zero, Array.getD_eq_getD_getElem?, Array.getElem?_append, List.size_toArray]
  by_cases hi : i < xs.length
  · rw [if_pos hi]
    have hia : i < args.length := by omega
    obtain ⟨x, hx, hd⟩ := denL_get h (i := i) (v := args[i]) (by simp [hia])
    simp only [List.getD, List.getElem?_eq_getElem hia, Option.getD_some, hd]
    simp [hx]
  · rw [if_neg hi]
    have hia : args.length ≤ i := by omega
    simp only [List.getD, List.getElem?_eq_none hia, Option.getD_none, den, Array.getElem?_replicate]
    split <;> rfl

def resOf (tmps : Array Value) : ResultVar → Sem Value
  | .tmp t => pure (tmps.getD t undef)
  | .cell x t => do loadVar t (← asAddr (tmps.getD x undef))

theorem evalRes_run [Ctxt] {M : Mem} {T : Fr} {e : Env} {a : Act} {w : World} (hT : DT e T a) (hR : Rep e M w) : ∀ (l : List ResultVar) (vs : List CV), evalRes P M T l = some vs →
    ∃ xs, denL e vs = some xs ∧ (l.mapM (resOf a.tmps)).run P w = .ok xs w
  | [], vs, h => by
    simp [evalRes] at h; subst h
    exact ⟨[], rfl, by simp⟩
  | .tmp t :: r, vs, h => by
    rw [evalRes] at h
    split at h
    · rename_i us hus
      simp at h; subst h
      obtain ⟨xs, h1, h2⟩ := evalRes_run hT hR r us hus
      refine ⟨_, denL_cons' (hT.get t) h1, ?_⟩
      rw [List.mapM_cons, Sem.run_bind]
      simp only [resOf, Sem.run_pure, Result.andThen_ok, Sem.run_bind, h2]
    · cases h
  | .cell x ty :: r, vs, h => by
    rw [evalRes] at h
    split at h
    · rename_i i off hx
      split at h
      · cases h
      · rename_i v hv
        split at h
        · rename_i us hus
          simp at h; subst h
          obtain ⟨xs, h1, h2⟩ := evalRes_run hT hR r us hus
          obtain ⟨p, y, hp, hy, hr⟩ := evalLoad_run (P := P) hv hR
          have hxd := hT.get x
          rw [hx] at hxd
          obtain ⟨p', hp', hxv⟩ := den_ptr hxd
          rw [hp] at hp'; cases hp'
          refine ⟨_, denL_cons' hy h1, ?_⟩
          have hc : (resOf a.tmps (.cell x ty)).run P w = .ok y w := by
            simp only [resOf, hxv, asAddr, Sem.run_bind, Sem.run_pure, Result.andThen_ok, hr]
          rw [List.mapM_cons, Sem.run_bind, hc]
          simp only [Sem.run_pure, Result.andThen_ok, Sem.run_bind, h2]
        · cases h
    · cases h

theorem results_of [Ctxt] {fn : Func} {M : Mem} {T : Fr} {e : Env} {a : Act} {w : World} (hT : DT e T a) (hR : Rep e M w) {vs : List CV} (h : evalRes P M T fn.results.toList = some vs) :
    ∃ u, den e (oneOrTup vs) = some u ∧ (results fn a.tmps).run P w = .ok u w := by
  obtain ⟨xs, h1, h2⟩ := evalRes_run (P := P) hT hR _ _ h
  have hm : (results fn a.tmps).run P w = .ok (if h : xs.toArray.size = 1 then xs.toArray[0] else .tuple xs.toArray) w := by
    rw [show results fn a.tmps = (do let vs ← fn.results.mapM (resOf a.tmps); pure (if h : vs.size = 1 then vs[0] else .tuple vs)) from rfl]
    rw [Sem.run_bind, Array.mapM_eq_mapM_toList, Sem.run_map, h2]
    rfl
  refine ⟨_, ?_, hm⟩
  have hl := denL_length h1
  match vs, xs, h1, hl with
  | [], [], _, _ => rfl
  | [v], [x], h1, _ =>
    obtain ⟨y, ys, he, hy, _⟩ := denL_cons h1
    cases he
    simpa [oneOrTup] using hy
  | v :: v' :: r, x :: x' :: s, h1, _ =>
    simp only [oneOrTup]
    rw [den_mkTup h1]
    simp

theorem collect_next (a : Nat) (v : CV) (M : Mem) : (collect a v M).next = M.next := rfl

theorem evalFn0_ok [Ctxt] {self : Nat → Code → Ev1} (hs : SelfOK P self) : CallNext (evalFn0 P self) ∧ ∀ lim f args M v M', evalFn0 P self lim f args M = some (v, M') → ∀ (e : Env) (w : World) (xs : List Value), denL e args = some xs → Rep e M w → (Ctxt.pin ≤ lim ∧ lim ≤ M.next) → (∀ i, M.next ≤ i → i < M'.next → e i = none) →
    ∀ R : Ending → World → Prop, (∀ e' w' u, den e' v = some u → Post lim e M w e' M' w' → R (.returned u) w') → Calls P f xs.toArray w R := by
  have both : ∀ lim f args M v M', evalFn0 P self lim f args M = some (v, M') → M.next ≤ M'.next ∧
      ∀ (e : Env) (w : World) (xs : List Value), denL e args = some xs → Rep e M w → (Ctxt.pin ≤ lim ∧ lim ≤ M.next) → (∀ i, M.next ≤ i → i < M'.next → e i = none) →
        ∀ R : Ending → World → Prop, (∀ e' w' u, den e' v = some u → Post lim e M w e' M' w' → R (.returned u) w') → Calls P f xs.toArray w R := by
    intro lim f args M v M' h
    unfold evalFn0 at h
    split at h
    · cases h
    · rename_i fn hfn
      unfold fnBody at h
      split at h
      · cases h
      · rename_i c hc
        have main : ∀ ex T1 M1, self lim c (mkFr (max fn.ntmps args.length) args) M = some (ex, T1, M1) → (ex.to = .normal ∨ ex.to = .ret) → fnEnd P fn M.next T1 M1 = some (v, M') → M.next ≤ M'.next ∧
            ∀ (e : Env) (w : World) (xs : List Value), denL e args = some xs → Rep e M w → (Ctxt.pin ≤ lim ∧ lim ≤ M.next) → (∀ i, M.next ≤ i → i < M'.next → e i = none) →
              ∀ R : Ending → World → Prop, (∀ e' w' u, den e' v = some u → Post lim e M w e' M' w' → R (.returned u) w') → Calls P f xs.toArray w R := by
          intro ex T1 M1 hev hex hend
          obtain ⟨hn, hok⟩ := hs lim c _ M ex T1 M1 hev
          unfold fnEnd at hend
          split at hend
          · cases hend
          · rename_i vs hvs
            simp only [Option.some.injEq, Prod.mk.injEq] at hend
            obtain ⟨rfl, rfl⟩ := hend
            refine ⟨by rw [collect_next]; exact hn, fun e w xs hargs hR hlim hnone R hR' => ?_⟩
            rw [collect_next] at hnone
            refine calls_of_wp hfn hc (hok e _ w (DT.start hargs fn.ntmps) rfl hR hlim hnone _ fun e' a' w' hT' hd' hp' => ?_)
            obtain ⟨u, hu, hr⟩ := results_of (P := P) (fn := fn) hT' hp'.rep hvs
            have hpost : Post lim e M w e' (collect M.next (oneOrTup vs) M1) w' := by
              unfold collect
              exact hp'.keep _ (fun i hi => by
                have : Nat.blt i M.next = true := blt_iff.2 (by omega)
                rw [this]; rfl)
            have := hR' e' w' u hu hpost
            rcases hex with h | h <;> rw [h] <;> exact ⟨hd', u, hr, this⟩
        unfold fnPost at h
        split at h
        · rename_i T1 M1 hev
          exact main .normal T1 M1 hev (.inl rfl) h
        · rename_i T1 M1 hev
          exact main .ret T1 M1 hev (.inr rfl) h
        · cases h
  exact ⟨fun lim f args M v M' h => (both lim f args M v M' h).1, fun lim f args M v M' h => (both lim f args M v M' h).2⟩

/-- The calls whose results are known come out so. -/
def KnownOK [Ctxt] (P : Program) : Prop :=
  EqOK P ∧ ∀ f args v, Ctxt.kc f args = some v → ∀ (e : Env) (xs : List Value) (w : World), Ctxt.K w → denL e args = some xs → Calls P f xs.toArray w fun r w' => (∃ u, den e v = some u ∧ r = .returned u) ∧ Below w.heap.size w w'

theorem post_below [Ctxt] {lim : Nat} {e : Env} {M : Mem} {w w' : World} (h : Rep e M w) (hb : Below w.heap.size w w') : Post lim e M w e M w' :=
  ⟨fun _ _ => rfl, .refl e, Nat.le_refl _, fun _ _ => rfl, ⟨h.wf, fun i b hi => by
    obtain ⟨p, hp, hB⟩ := h.blk i b hi
    exact ⟨p, hp, hB.mono (.refl e) (hb.block _ hB.lt)⟩, h.inj, h.pin, h.pinN, h.rest.step (hb.mono h.rest.size)⟩, hb.size, fun b hb' _ => hb.block b hb', fun i c p hi hc _ => absurd (h.wf i c hc) (by omega), fun i c _ hc => ⟨c, hc⟩, hb.os, hb.tape, hb.output⟩

theorem evalFn_ok [Ctxt] (hk : KnownOK P) {self : Nat → Code → Ev1} (hs : SelfOK P self) : CallNext (evalFn P self) ∧ CallOK P (evalFn P self) := by
  obtain ⟨h1, h2⟩ := evalFn0_ok hs
  refine ⟨fun lim f args M v M' h => ?_, hk.1, fun lim f args M v M' h => ?_⟩
  · unfold evalFn at h
    split at h
    · simp at h; rw [h.2]; exact Nat.le_refl _
    · exact h1 lim f args M v M' h
  · unfold evalFn at h
    split at h
    · rename_i v' hv
      simp at h; obtain ⟨rfl, rfl⟩ := h
      intro e w xs hx hR hl hn R hR'
      refine (hk.2 f args _ hv e xs w hR.rest.k hx).mono fun r w' hr => ?_
      obtain ⟨⟨u, hu, rfl⟩, hb⟩ := hr
      exact hR' e w' u hu (post_below hR hb)
    · exact h2 lim f args M v M' h

theorem CodeOK.seq [Ctxt] {lim : Nat} {x y : Code} {T T1 T' : Fr} {M M1 M' : Mem} {ex : Ex} (hx : CodeOK P lim x T M .normal T1 M1) (hy : CodeOK P lim y T1 M1 ex T' M') (h1 : M.next ≤ M1.next) (h2 : M1.next ≤ M'.next) : CodeOK P lim (.seq x y) T M ex T' M' :=
  fun e a w hT hd hR hl hn Q hQ => wp_seq (hx e a w hT hd hR hl (fun i g1 g2 => hn i g1 (by omega)) _ fun e1 a1 w1 hT1 hd1 hp1 =>
    hy e1 a1 w1 hT1 hd1 hp1.rep (by omega) (fun i g1 g2 => by rw [hp1.env i (.inr g1)]; exact hn i (by omega) g2) Q fun e' a' w' hT' hd' hp' => hQ e' a' w' hT' hd' (hp1.trans hp'))

theorem CodeOK.seq_out [Ctxt] {lim : Nat} {x y : Code} {T T' : Fr} {M M' : Mem} {ex : Ex} (hx : CodeOK P lim x T M ex T' M') (hex : ex.to ≠ .normal) : CodeOK P lim (.seq x y) T M ex T' M' :=
  fun e a w hT hd hR hl hn Q hQ => wp_seq (hx e a w hT hd hR hl hn _ fun e' a' w' hT' hd' hp' => by
    have := hQ e' a' w' hT' hd' hp'
    cases ex with
    | normal => exact absurd rfl hex
    | exit id => exact this
    | ret => exact this)

theorem evalLoop_ok [Ctxt] {lim : Nat} {c : Code} {f : Ev1} (hf : ∀ T M ex T' M', f T M = some (ex, T', M') → M.next ≤ M'.next ∧ CodeOK P lim c T M ex T' M') : ∀ (n : Nat) (T : Fr) (M : Mem) (ex : Ex) (T' : Fr) (M' : Mem), evalLoop f n T M = some (ex, T', M') →
    M.next ≤ M'.next ∧ ∀ (e : Env) (a : Act) (w : World), DT e T a → a.defers = [] → Rep e M w → (Ctxt.pin ≤ lim ∧ lim ≤ M.next) → (∀ i, M.next ≤ i → i < M'.next → e i = none) →
      ∀ (Q : Exit → Act → World → Prop), (∀ e' a' w', DT e' T' a' → a'.defers = [] → Post lim e M w e' M' w' → Q ex.to a' w') → Code.rounds P c Q n a w
  | 0, T, M, ex, T', M', h => by simp [evalLoop] at h
  | n + 1, T, M, ex, T', M', h => by
    have h : loopThen (evalLoop f n) (f T M) = some (ex, T', M') := h
    unfold loopThen at h
    split at h
    · rename_i T1 M1 hf1
      obtain ⟨h1, hok⟩ := hf T M .normal T1 M1 hf1
      obtain ⟨h2, ih⟩ := evalLoop_ok hf n T1 M1 ex T' M' h
      refine ⟨by omega, fun e a w hT hd hR hl hn Q hQ => ?_⟩
      rw [rounds_succ]
      exact hok e a w hT hd hR hl (fun i g1 g2 => hn i g1 (by omega)) _ fun e1 a1 w1 hT1 hd1 hp1 =>
        ih e1 a1 w1 hT1 hd1 hp1.rep (by omega) (fun i g1 g2 => by rw [hp1.env i (.inr g1)]; exact hn i (by omega) g2) Q fun e' a' w' hT' hd' hp' => hQ e' a' w' hT' hd' (hp1.trans hp')
    · rename_i hne
      obtain ⟨h1, hok⟩ := hf T M ex T' M' h
      refine ⟨h1, fun e a w hT hd hR hl hn Q hQ => ?_⟩
      rw [rounds_succ]
      refine hok e a w hT hd hR hl hn _ fun e' a' w' hT' hd' hp' => ?_
      have := hQ e' a' w' hT' hd' hp'
      cases ex with
      | normal => exact absurd h (hne T' M')
      | exit id => exact this
      | ret => exact this

theorem isTrueC_some {c : CV} {b : Bool} (h : isTrueC c = some b) : c = .clo (.bool b) := by
  unfold isTrueC at h
  split at h
  · cases h; rfl
  · cases h

theorem stepC_ok [Ctxt] (hm : P.follows .mixedOrders = true) (hk : KnownOK P) {self : Nat → Code → Ev1} (hs : SelfOK P self) : SelfOK P (stepC P self) := by
  intro lim c T M ex T' M' h
  unfold stepC at h
  split at h
  · simp at h; obtain ⟨rfl, rfl, rfl⟩ := h
    exact ⟨Nat.le_refl _, fun e a w hT hd hR _ _ Q hQ => wp_skip (hQ e a w hT hd (.refl hR))⟩
  · simp at h; obtain ⟨rfl, rfl, rfl⟩ := h
    exact ⟨Nat.le_refl _, fun e a w hT hd hR _ _ Q hQ => wp_label (hQ e a w hT hd (.refl hR))⟩
  · rename_i x y
    unfold seqThen at h
    split at h
    · rename_i T1 M1 hx
      obtain ⟨h1, ok1⟩ := hs lim x T M _ T1 M1 hx
      obtain ⟨h2, ok2⟩ := hs lim y T1 M1 ex T' M' h
      exact ⟨by omega, ok1.seq ok2 h1 h2⟩
    · rename_i hne
      obtain ⟨h1, ok1⟩ := hs lim x T M ex T' M' h
      refine ⟨h1, ok1.seq_out (fun he => ?_)⟩
      cases ex with
      | normal => exact hne T' M' h
      | exit id => cases he
      | ret => cases he
  · rename_i cnd x y
    unfold condGo at h
    split at h
    · rename_i t ht
      have ht := isTrueC_some ht
      obtain ⟨h1, ok⟩ := hs lim _ T M ex T' M' h
      refine ⟨h1, fun e a w hT hd hR hl hn Q hQ => ?_⟩
      have hc := den_opd hT cnd
      rw [ht] at hc
      refine wp_cond (t := t) (den_clo hc) ?_
      have := ok e a w hT hd hR hl hn Q hQ
      cases t <;> exact this
    · cases h
  · rename_i id x
    unfold blockEnd at h
    split at h
    · rename_i j T1 M1 hx
      obtain ⟨h1, ok⟩ := hs lim x T M _ T1 M1 hx
      simp at h; obtain ⟨rfl, rfl, rfl⟩ := h
      refine ⟨h1, fun e a w hT hd hR hl hn Q hQ => wp_block (ok e a w hT hd hR hl hn _ fun e' a' w' hT' hd' hp' => ?_)⟩
      have := hQ e' a' w' hT' hd' hp'
      show if j = id then Q .normal a' w' else Q (.exit j) a' w'
      rcases beq_cases j id with ⟨g1, g2⟩ | ⟨g1, g2⟩
      · rw [if_pos g2]; rw [g1] at this; exact this
      · rw [if_neg g2]; rw [g1] at this; exact this
    · rename_i hne
      obtain ⟨h1, ok⟩ := hs lim x T M ex T' M' h
      refine ⟨h1, fun e a w hT hd hR hl hn Q hQ => wp_block (ok e a w hT hd hR hl hn _ fun e' a' w' hT' hd' hp' => ?_)⟩
      have := hQ e' a' w' hT' hd' hp'
      cases ex with
      | normal => exact this
      | exit id => exact absurd h (hne id T' M')
      | ret => exact this
  · rename_i x
    obtain ⟨h1, ok⟩ := evalLoop_ok (P := P) (lim := lim) (c := x) (fun T M ex T' M' h => hs lim x T M ex T' M' h) 100000 T M ex T' M' h
    exact ⟨h1, fun e a w hT hd hR hl hn Q hQ => wp_loop_rounds 100000 (ok e a w hT hd hR hl hn Q hQ)⟩
  · rename_i id
    simp at h; obtain ⟨rfl, rfl, rfl⟩ := h
    exact ⟨Nat.le_refl _, fun e a w hT hd hR _ _ Q hQ => wp_exit (hQ e a w hT hd (.refl hR))⟩
  · simp at h; obtain ⟨rfl, rfl, rfl⟩ := h
    exact ⟨Nat.le_refl _, fun e a w hT hd hR _ _ Q hQ => wp_ret (hQ e a w hT hd (.refl hR))⟩
  · rename_i id ops
    unfold asNormal at h
    split at h
    · rename_i r hr
      simp at h
      obtain ⟨rfl, h⟩ := h
      subst h
      obtain ⟨hn1, hc1⟩ := evalFn_ok hk hs
      obtain ⟨h1, ok⟩ := evalRegion_ok hm hn1 hc1 hr
      exact ⟨h1, fun e a w hT hd hR hl hn Q hQ => ok id e a w hT hd hR hl hn Q hQ⟩
    · cases h
  · rename_i id ops
    unfold asNormal at h
    split at h
    · rename_i r hr
      simp at h
      obtain ⟨rfl, h⟩ := h
      subst h
      obtain ⟨hn1, hc1⟩ := evalFn_ok hk hs
      refine ⟨evalOps_next hn1 _ _ _ _ _ hr, fun e a w hT hd hR hl hn Q hQ => ?_⟩
      exact wp_region_list (evalOps_ok hn1 hc1 _ _ _ _ _ hr e a w hT hd hR hl hn hQ)
    · cases h
  · rename_i x
    obtain ⟨h1, ok⟩ := hs lim x T M ex T' M' h
    refine ⟨h1, fun e a w hT hd hR hl hn Q hQ => wp_scope_straight (ok e a w hT hd hR hl hn _ fun e' a' w' hT' hd' hp' => ?_)⟩
    have := hQ e' a' w' hT' hd' hp'
    cases ex <;> exact this
  · cases h

theorem evalC_ok [Ctxt] (hm : P.follows .mixedOrders = true) (hk : KnownOK P) : ∀ n, SelfOK P (evalC P n)
  | 0 => fun lim c T M ex T' M' h => by simp [evalC] at h
  | n + 1 => stepC_ok hm hk (evalC_ok hm hk n)

/-- **A call on values that are the same in every world, beside package variables that hold what is known of them**: what the working out yields is what the call returns; nothing that was there has changed. -/
theorem calls_beside [Ctxt] (hm : P.follows .mixedOrders = true) (hk : KnownOK P) {n : Nat} {f : FuncId} {args : List CV} {xs : List Value} (hx : denL (fun _ => none) args = some xs) {v : Value} (g : List (Nat × Blk)) (h : evalBeside P n f args g = some v) (w : World) (hK : Ctxt.K w) (hBs : Ctxt.B ≤ w.heap.size)
    (hg : ∀ i b, look g i = some b → i < Ctxt.pin ∧ b.row = none ∧ RepB (fun i => if i < Ctxt.pin then some (i, 0) else none) b (i, 0) w) :
    Calls P f xs.toArray w fun e w' => e = .returned v ∧ Below w.heap.size w w' := by
  unfold evalBeside at h
  split at h
  · rename_i v' M' hev
    simp at h; subst h
    obtain ⟨hn1, hc1⟩ := evalFn0_ok (evalC_ok hm hk n)
    refine hc1 Ctxt.pin f _ _ _ _ hev (fun i => if i < Ctxt.pin then some (i, 0) else none) w xs (denL_mono (fun _ _ h => by cases h) _ _ hx) ⟨fun i b h => (hg i b h).1, fun i b h => ⟨(i, 0), by simp [(hg i b h).1], (hg i b h).2.2⟩, fun i j b c p q hb hc hp hq hpq => ?_, fun i p hi hp => ?_, Nat.le_refl _, hK, hBs, fun i p hi hp => ?_⟩ ⟨Nat.le_refl _, Nat.le_refl _⟩ (fun i hi _ => by
      show (if i < Ctxt.pin then some (i, 0) else none) = none
      rw [if_neg (show ¬ i < Ctxt.pin from by have : Ctxt.pin ≤ i := hi; omega)]) _ (fun e' w' u hu hp => ?_)
    · rw [if_pos (hg i b hb).1] at hp
      rw [if_pos (hg j c hc).1] at hq
      cases hp; cases hq; exact hpq
    · rw [if_pos hi] at hp; cases hp; rfl
    · rw [if_neg (by omega)] at hp; cases hp
    · have := den_clo hu
      subst this
      refine ⟨rfl, hp.os, hp.tape, hp.output, hp.size, fun k hk => ?_⟩
      by_cases hkg : ∃ b, look g k = some b
      · -- a package variable: it was not written
        obtain ⟨b, hb⟩ := hkg
        obtain ⟨hkp, hrow, c, vs, fz, h1, h2, h3, hz, h4⟩ := hg k b hb
        have hlow : M'.at k = some b := (hp.low k hkp).trans hb
        obtain ⟨p, hpk, c', vs', fz', g1, g2, g3, gz, g4⟩ := hp.rep.blk k b hlow
        rw [hp.env k (.inl hkp), if_pos hkp] at hpk
        cases hpk
        rw [denL_mono hp.le _ _ h2] at g2
        cases g2
        rw [hrow] at h4 g4 hz gz
        have hz : fz = (0, 0) := hz.resolve_left fun h => by cases h
        have gz : fz' = (0, 0) := gz.resolve_left fun h => by cases h
        subst hz; subst gz
        have e1 : c.toList = vs := by rw [← h3, List.take_of_length_le (by simp; omega)]
        have e2 : c'.toList = vs := by rw [← g3, List.take_of_length_le (by simp; omega)]
        have e3 : c' = c := Array.ext' (e2.trans e1.symm)
        rw [h1, g1, e3]
      · exact hp.kept k hk (fun i c p hi hpi hpk => by
          have h1 := (hg i c hi).1
          rw [if_pos h1] at hpi
          cases hpi
          exact hkg ⟨c, by rw [← hpk]; exact hi⟩)
  · cases h
end

/-- Where nothing is told. -/
abbrev noVars : Ctxt := ⟨0, ints fun _ => (.i64, 0), fun _ _ => none, fun _ _ _ _ => none, fun _ _ => none, fun _ => True, 0, fun _ _ _ _ => trivial⟩

theorem calls_closed {P : Program} (hm : P.follows .mixedOrders = true) {n : Nat} {f : FuncId} {args : List Value} {v : Value} (h : @evalBeside noVars P n f (args.map .clo) [] = some v) (w : World) :
    Calls P f args.toArray w fun e w' => e = .returned v ∧ Below w.heap.size w w' :=
  @calls_beside P noVars hm ⟨⟨(fun _ _ _ h => by cases h), (fun _ _ _ _ _ h => by cases h)⟩, (fun _ _ _ h => by cases h)⟩ n f _ args (@denL_clo noVars _ _) v [] h w trivial (Nat.zero_le _) (fun i b h => by simp [look_nil] at h)

end Go.Ev
