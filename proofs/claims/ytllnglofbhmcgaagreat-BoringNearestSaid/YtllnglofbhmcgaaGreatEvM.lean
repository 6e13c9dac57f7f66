/- A closed call is worked out by a program of its own: code, calls, and what it is for: a call on values that are the same in every world. -/
import Derived.Test.YtllnglofbhmcgaaGreatEvL
import Derived.RowKit
import Derived.RangeFuncRecord
namespace Go.Ev
set_option linter.unusedSimpArgs false
set_option linter.unusedVariables false
open Go.RowKit

def Ex.to : Ex → Exit
  | .normal => .normal
  | .exit id => .exit id
  | .ret => .ret

/-- What the working out of code must do. -/
def CodeOK [Ctxt] (P : Program) (rf : Bool) (lim : Nat) (c : Code) (T : Fr) (M : Mem) (ex : Ex) (T' : Fr) (M' : Mem) : Prop :=
  ∀ (ro : Option Nat) (nn : Nat) (_ : rf = true → ro = none) (e : Env) (a : Act) (w : World), DT e T a → DF e T a → Rep e M w → (Ctxt.pin ≤ lim ∧ lim ≤ M.next) → (∀ i, M.next ≤ i → i < M'.next → e i = none) →
    ∀ (Q : Exit → Act → World → Prop), (∀ e' a' w', DT e' T' a' → DF e' T' a' → Post lim e M w e' M' w' → Q ex.to a' w') → c.wpIn (FW ro) nn P Q a w

/-- A scope without jumps, inside a fence. -/
theorem wpIn_scope_straight {F : Fence} {n : Nat} {P : Program} {Q : Exit → Act → World → Prop} {a : Act} {w : World} {c : Code} (h : c.wpIn F n P (Exit.noGoto Q) a w) : (Code.scope c).wpIn F n P Q a w := by
  intro b k cs hro hb hr
  have h0 : (lone (b.atR a (.code (.scope c) :: k)) cs w).fenced P F := fenced_calm hb hr rfl
  have s0 : step P (lone (b.atR a (.code (.scope c) :: k)) cs w) = .next (lone (b.atR a (.code c :: .inScope c :: k)) cs w) :=
    step_lone_go (by simp [stepG, stepG.exec, Frame.atR])
  obtain ⟨e, a₁, w₁, hq, harr⟩ := h b (.inScope c :: k) cs hro hb hr
  cases e with
  | normal =>
    have s1 : step P (lone (b.atR a₁ (.inScope c :: k)) cs w₁) = .next (lone (b.atR a₁ k) cs w₁) := step_lone_go (by simp [stepG, stepG.exec, Frame.atR])
    exact ⟨.normal, a₁, w₁, hq, .head h0 s0 (StepsIn.trans harr (.one (fenced_calm hb hr rfl) s1))⟩
  | exit id =>
    have hx : exitTo id (.inScope c :: k) = exitTo id k := by simp [exitTo]
    exact ⟨.exit id, a₁, w₁, hq, fun k' hk => .head h0 s0 (harr.1 k' (by rw [hx]; exact hk)),
      fun hr' hk => let ⟨k₁, h1, h2⟩ := harr.2 hr' (by rw [hx]; exact hk); ⟨k₁, h1, .head h0 s0 h2⟩⟩
  | goto l => exact hq.elim
  | ret => exact ⟨_, a₁, w₁, hq, .of_steps (.one h0 s0) harr⟩
  | panic ch => exact ⟨_, a₁, w₁, hq, .of_steps (.one h0 s0) harr⟩
  | outgrown => exact ⟨_, a₁, w₁, hq, .of_steps (.one h0 s0) harr⟩

def SelfOK [Ctxt] (P : Program) (rf : Bool) (self : Nat → Code → Ev1) : Prop :=
  ∀ lim c T M ex T' M', self lim c T M = some (ex, T', M') → M.next ≤ M'.next ∧ CodeOK P rf lim c T M ex T' M'

section
variable {P : Program}

theorem lookF_indexed [Ctxt] {l : List CV} : ∀ (i j : Nat), lookF (indexedFrom i l) j = if i ≤ j then l.getD (j - i) (.clo undef) else .clo undef := by
  induction l with
  | nil => intro i j; simp [indexedFrom, lookF]
  | cons v r ih =>
    intro i j
    rw [indexedFrom, lookF_cons, ih]
    by_cases h : i = j
    · subst h; simp
    · rw [if_neg h]
      by_cases hij : i ≤ j
      · rw [if_pos hij, if_pos (by omega), show j - i = (j - (i + 1)) + 1 by omega]; simp
      · rw [if_neg hij, if_neg (by omega)]

theorem mkFr_n (n : Nat) (l : List CV) : (mkFr n l).n = n := by cases n <;> rfl
theorem mkFr_l (n : Nat) (l : List CV) : (mkFr n l).l = indexedFrom 0 l := by cases n <;> rfl

theorem mkFr_ms (n : Nat) (l : List CV) : (mkFr n l).ms = [] := by cases n <;> rfl

theorem DT.start [Ctxt] {e : Env} {args : List CV} {xs : List Value} (h : denL e args = some xs) (n : Nat) : DT e (mkFr (max n args.length) args) { tmps := xs.toArray ++ Array.replicate (n - xs.toArray.size) undef, defers := [] } := by
  have hl := denL_length h
  refine ⟨by rw [mkFr_n]; simp; omega, fun i => ?_⟩
  simp only [Fr.get, mkFr_l, lookF_indexed, Nat.zero_le, if_true, Nat.sub_zero, Array.getD_eq_getD_getElem?, Array.getElem?_append, List.size_toArray]
  by_cases hi : i < xs.length
  · rw [if_pos hi]
    have hia : i < args.length := by omega
    obtain ⟨x, hx, hd⟩ := denL_get h (i := i) (v := args[i]) (by simp [hia])
    simp only [List.getD, List.getElem?_eq_getElem hia, Option.getD_some, hd]
    simp [hx]
  · rw [if_neg hi]
    have hia : args.length ≤ i := by omega
    simp only [List.getD, List.getElem?_eq_none hia, Option.getD_none, den, Array.getElem?_replicate]
    split <;> rfl

def resOf (tmps : Array Value) : ResultVar → Sem Value
  | .tmp t => pure (tmps.getD t undef)
  | .cell x t => do loadVar t (← asAddr (tmps.getD x undef))

theorem evalRes_run [Ctxt] {M : Mem} {T : Fr} {e : Env} {a : Act} {w : World} (hT : DT e T a) (hR : Rep e M w) : ∀ (l : List ResultVar) (vs : List CV), evalRes P M T l = some vs →
    ∃ xs, denL e vs = some xs ∧ (l.mapM (resOf a.tmps)).run P w = .ok xs w
  | [], vs, h => by
    simp [evalRes] at h; subst h
    exact ⟨[], rfl, by simp⟩
  | .tmp t :: r, vs, h => by
    rw [evalRes] at h
    split at h
    · rename_i us hus
      simp at h; subst h
      obtain ⟨xs, h1, h2⟩ := evalRes_run hT hR r us hus
      refine ⟨_, denL_cons' (hT.get t) h1, ?_⟩
      rw [List.mapM_cons, Sem.run_bind]
      simp only [resOf, Sem.run_pure, Result.andThen_ok, Sem.run_bind, h2]
    · cases h
  | .cell x ty :: r, vs, h => by
    rw [evalRes] at h
    split at h
    · rename_i i off hx
      split at h
      · cases h
      · rename_i v hv
        split at h
        · rename_i us hus
          simp at h; subst h
          obtain ⟨xs, h1, h2⟩ := evalRes_run hT hR r us hus
          obtain ⟨p, y, hp, hy, hr⟩ := evalLoad_run (P := P) hv hR
          have hxd := hT.get x
          rw [hx] at hxd
          obtain ⟨p', hp', hxv⟩ := den_ptr hxd
          rw [hp] at hp'; cases hp'
          refine ⟨_, denL_cons' hy h1, ?_⟩
          have hc : (resOf a.tmps (.cell x ty)).run P w = .ok y w := by
            simp only [resOf, hxv, asAddr, Sem.run_bind, Sem.run_pure, Result.andThen_ok, hr]
          rw [List.mapM_cons, Sem.run_bind, hc]
          simp only [Sem.run_pure, Result.andThen_ok, Sem.run_bind, h2]
        · cases h
    · cases h

theorem results_of [Ctxt] {fn : Func} {M : Mem} {T : Fr} {e : Env} {a : Act} {w : World} (hT : DT e T a) (hR : Rep e M w) {vs : List CV} (h : evalRes P M T fn.results.toList = some vs) :
    ∃ u, den e (oneOrTup vs) = some u ∧ (results fn a.tmps).run P w = .ok u w := by
  obtain ⟨xs, h1, h2⟩ := evalRes_run (P := P) hT hR _ _ h
  have hm : (results fn a.tmps).run P w = .ok (if h : xs.toArray.size = 1 then xs.toArray[0] else .tuple xs.toArray) w := by
    rw [show results fn a.tmps = (do let vs ← fn.results.mapM (resOf a.tmps); pure (if h : vs.size = 1 then vs[0] else .tuple vs)) from rfl]
    rw [Sem.run_bind, Array.mapM_eq_mapM_toList, Sem.run_map, h2]
    rfl
  refine ⟨_, ?_, hm⟩
  have hl := denL_length h1
  match vs, xs, h1, hl with
  | [], [], _, _ => rfl
  | [v], [x], h1, _ =>
    obtain ⟨y, ys, he, hy, _⟩ := denL_cons h1
    cases he
    simpa [oneOrTup] using hy
  | v :: v' :: r, x :: x' :: s, h1, _ =>
    simp only [oneOrTup]
    rw [den_mkTup h1]
    simp

theorem collect_next (a : Nat) (v : CV) (M : Mem) : (collect a v M).next = M.next := rfl

theorem dropAll_next : ∀ (l : List Nat) (M : Mem), (dropAll l M).next = M.next
  | [], _ => rfl
  | _ :: r, M => dropAll_next r (M.keep _)

/-- The block for deferred calls is shut. -/
theorem post_take [Ctxt] {lim : Nat} {e : Env} {M : Mem} {w : World} (h : Rep e M w) (hpi : Ctxt.pin ≤ lim) {i : Nat} (hl : lim ≤ i) {b : Blk} (hb : M.at i = some b) {p : Nat × Nat} (hp : e i = some p) (o : Obj) :
    Post lim e M w e (M.keep fun k => !Nat.beq k i) (w.putObj p.1 o) := by
  have hk : ∀ k, k ≠ p.1 → (w.putObj p.1 o).heap[k]? = w.heap[k]? := fun k hk => World.putObj_heap_other hk
  have sub : ∀ j c, (M.keep fun k => !Nat.beq k i).at j = some c → j ≠ i ∧ M.at j = some c := by
    intro j c hc
    rw [Mem.at_keep] at hc
    rcases beq_cases j i with ⟨h1, h2⟩ | ⟨h1, h2⟩
    · rw [h1] at hc; cases hc
    · rw [h1] at hc; exact ⟨h2, by simpa using hc⟩
  refine ⟨fun _ _ => rfl, .refl e, Nat.le_refl _, fun j hj => ?_, ⟨fun j c hc => h.wf j c (sub j c hc).2, fun j c hc => ?_, fun j k c d q r hc hd => h.inj j k c d q r (sub j c hc).2 (sub k d hd).2, h.pin, h.pinN, h.rest.step ⟨rfl, rfl, rfl, by simp [World.putObj], fun k hk' => hk k (fun e' => ?_)⟩⟩, by simp [World.putObj], fun k _ hn => hk k (fun e' => hn i b p hb hp e'.symm), fun j c q hj hc _ => absurd (h.wf j c (sub j c hc).2) (by omega), fun j c _ hc => ⟨c, (sub j c hc).2⟩, rfl, rfl, rfl⟩
  · rw [Mem.at_keep]
    rcases beq_cases j i with ⟨_, h2⟩ | ⟨h1, _⟩
    · omega
    · rw [h1]; rfl
  · obtain ⟨hne, hc'⟩ := sub j c hc
    obtain ⟨q, hq, hB⟩ := h.blk j c hc'
    exact ⟨q, hq, hB.mono (.refl e) (hk _ fun e' => hne (h.inj j i c b q p hc' hb hq hp e'))⟩
  · have := h.rest.new i p (by omega) hp
    omega

theorem leaves_marks [Ctxt] {F : Fence} {n : Nat} {fn : Func} {tmps : Array Value} {R : Ending → World → Prop} {lim a : Nat} (hpi : Ctxt.pin ≤ lim) (hla : lim ≤ a) : ∀ (ms : List Nat) (ds : List Deferred) (e : Env) (M : Mem) (w : World), DFs e ms ds → Rep e M w → marksOK a M ms = true →
    (∀ w', Post lim e M w e (dropAll ms M) w' → ∃ v, (results fn tmps).run P w' = .ok v w' ∧ R (.returned v) w') → LeavesInM F n P fn tmps R ds .returning w
  | [], ds, e, M, w, hd, hR, _, hK => by
    have hd : ds = [] := hd
    subst hd
    exact hK w (.refl hR)
  | i :: r, ds, e, M, w, hd, hR, hm, hK => by
    obtain ⟨p, ds', hp, rfl, hd'⟩ := hd
    simp only [marksOK, Bool.and_eq_true] at hm
    obtain ⟨⟨⟨h1, h2⟩, h3⟩, h4⟩ := hm
    have h1 := Nat.le_of_ble_eq_true h1
    split at h3
    case h_2 => cases h3
    rename_i ty z hb
    obtain ⟨q, hq, hB⟩ := hR.blk i _ hb
    rw [hp] at hq; cases hq
    have hw : w.heap[p.1]? = some (.deferred (some [])) := by
      rcases hB with ⟨c, vs, fz, _, g, _⟩ | ⟨_, c, g1, _, g3⟩
      · simp [denL, den] at g
      · simp only [List.cons.injEq, and_true] at g1
        subst g1
        exact g3
    have P1 := post_take (lim := lim) hR hpi (by omega) hb hp (.deferred none)
    refine ⟨(fun h => by cases h), .inl ⟨p.1, _, rfl, run_takeDeferred hw, ?_⟩⟩
    refine leaves_marks hpi hla r ds' e _ _ hd' P1.rep ?_ (fun w' hp' => hK w' (P1.trans hp'))
    have h2 : memN i r = false := by simpa using h2
    have : ∀ (l : List Nat), memN i l = false → marksOK a M l = true → marksOK a (M.keep fun k => !Nat.beq k i) l = true := by
      intro l
      induction l with
      | nil => intro _ _; rfl
      | cons j s ih =>
        intro hn hm
        simp only [marksOK, Bool.and_eq_true] at hm ⊢
        have hn : Nat.beq i j = false ∧ memN i s = false := by simpa [memN] using hn
        refine ⟨⟨hm.1.1, ?_⟩, ih hn.2 hm.2⟩
        have hji : Nat.beq j i = false := by
          rcases beq_cases j i with ⟨_, g2⟩ | ⟨g1, _⟩
          · subst g2
            rcases beq_cases j j with ⟨g, _⟩ | ⟨_, g⟩
            · rw [g] at hn; cases hn.1
            · exact absurd rfl g
          · exact g1
        rw [Mem.at_keep, hji]
        exact hm.1.2
    exact this r h2 h4

theorem evalFn0_ok [Ctxt] {self : Nat → Code → Ev1} (hs : SelfOK P true self) : CallNext (evalFn0 P self) ∧ ∀ lim f args M v M', evalFn0 P self lim f args M = some (v, M') → ∀ (e : Env) (w : World) (xs : List Value), denL e args = some xs → Rep e M w → (Ctxt.pin ≤ lim ∧ lim ≤ M.next) → (∀ i, M.next ≤ i → i < M'.next → e i = none) →
    ∀ R : Ending → World → Prop, (∀ e' w' u, den e' v = some u → Post lim e M w e' M' w' → R (.returned u) w') → Calls P f xs.toArray w R := by
  have both : ∀ lim f args M v M', evalFn0 P self lim f args M = some (v, M') → M.next ≤ M'.next ∧
      ∀ (e : Env) (w : World) (xs : List Value), denL e args = some xs → Rep e M w → (Ctxt.pin ≤ lim ∧ lim ≤ M.next) → (∀ i, M.next ≤ i → i < M'.next → e i = none) →
        ∀ R : Ending → World → Prop, (∀ e' w' u, den e' v = some u → Post lim e M w e' M' w' → R (.returned u) w') → Calls P f xs.toArray w R := by
    intro lim f args M v M' h
    unfold evalFn0 at h
    split at h
    · cases h
    · rename_i fn hfn
      unfold fnBody at h
      split at h
      · cases h
      · rename_i c hc
        have main : ∀ ex T1 M1, self lim c (mkFr (max fn.ntmps args.length) args) M = some (ex, T1, M1) → (ex.to = .normal ∨ ex.to = .ret) → fnEnd P fn M.next T1 M1 = some (v, M') → M.next ≤ M'.next ∧
            ∀ (e : Env) (w : World) (xs : List Value), denL e args = some xs → Rep e M w → (Ctxt.pin ≤ lim ∧ lim ≤ M.next) → (∀ i, M.next ≤ i → i < M'.next → e i = none) →
              ∀ R : Ending → World → Prop, (∀ e' w' u, den e' v = some u → Post lim e M w e' M' w' → R (.returned u) w') → Calls P f xs.toArray w R := by
          intro ex T1 M1 hev hex hend
          obtain ⟨hn, hok⟩ := hs lim c _ M ex T1 M1 hev
          unfold fnEnd at hend
          cases hmk : marksOK M.next M1 T1.ms with
          | false => rw [hmk] at hend; cases hend
          | true =>
          rw [hmk] at hend
          simp only [cond_true] at hend
          split at hend
          · cases hend
          · rename_i vs hvs
            simp only [Option.some.injEq, Prod.mk.injEq] at hend
            obtain ⟨rfl, rfl⟩ := hend
            refine ⟨by rw [collect_next, dropAll_next]; exact hn, fun e w xs hargs hR hlim hnone R hR' => ?_⟩
            rw [collect_next, dropAll_next] at hnone
            refine (callsIn_FW (ro := none) (n := 0)).1 (callsIn_of_wp_marks hfn hc trivial (hok none 0 (fun _ => rfl) e _ w (DT.start hargs fn.ntmps) (by unfold DF; rw [mkFr_ms]; rfl) hR hlim hnone _ (fun e' a' w' hT' hd' hp' => ?_)))
            have key : LeavesInM (FW none) 0 P fn a'.tmps R a'.defers .returning w' := by
              refine leaves_marks (lim := lim) hlim.1 hlim.2 T1.ms a'.defers e' M1 w' hd' hp'.rep hmk (fun w2 hp2 => ?_)
              have hp3 := hp'.trans hp2
              obtain ⟨u, hu, hr⟩ := results_of (P := P) (fn := fn) hT' hp2.rep hvs
              have hpost : Post lim e M w e' (collect M.next (oneOrTup vs) (dropAll T1.ms M1)) w2 := by
                unfold collect
                exact hp3.keep _ (fun i hi => by
                  have : Nat.blt i M.next = true := blt_iff.2 (by omega)
                  rw [this]; rfl)
              exact ⟨u, hr, hR' e' w2 u hu hpost⟩
            rcases hex with h | h <;> rw [h] <;> exact key
        unfold fnPost at h
        split at h
        · rename_i T1 M1 hev
          exact main .normal T1 M1 hev (.inl rfl) h
        · rename_i T1 M1 hev
          exact main .ret T1 M1 hev (.inr rfl) h
        · cases h
  exact ⟨fun lim f args M v M' h => (both lim f args M v M' h).1, fun lim f args M v M' h => (both lim f args M v M' h).2⟩

def envL (e : Env) (base : Nat) (ps : List (Nat × Nat)) : Env := fun i => if base ≤ i ∧ i < base + ps.length then ps[i - base]? else e i
/-- A row with this list lies in a world at a place. -/
def AbAt [Ctxt] (b : Tm × TypeId × Nat) (p : Nat × Nat) (w : World) : Prop :=
  ∃ c, w.heap[p.1]? = some (.cells c b.2.1 (0, 0)) ∧ c.toList.take (Ctxt.ab.lst b.1).length = Ctxt.ab.lst b.1 ∧ c.size = p.2 * b.2.2 ∧ p.2 ≤ maxLen
/-- The calls that make rows come out so. -/
def ClOK [Ctxt] (P : Program) : Prop :=
  ∀ f args base r bs, Ctxt.ab.cl f args base = some (r, bs) → ∀ (e : Env) (M : Mem) (w : World) (cs : List CV) (xs : List Value), labL M cs = args → M.next = base → Rep e M w → denL e cs = some xs → (∀ i, base ≤ i → i < base + bs.length → e i = none) →
    Calls P f xs.toArray w fun q w' => Below w.heap.size w w' ∧ ∃ ps : List (Nat × Nat), ps.length = bs.length ∧ (∀ p ∈ ps, w.heap.size ≤ p.1) ∧ (ps.map (·.1)).Nodup ∧
      (∀ (j : Nat) p b, ps[j]? = some p → bs[j]? = some b → AbAt b p w') ∧ ∃ u, den (envL e base ps) r = some u ∧ q = .returned u
/-- The calls whose results are known come out so. -/
def KnownOK [Ctxt] (P : Program) : Prop :=
  (EqOK P ∧ ∀ f args v, Ctxt.kc f args = some v → ∀ (e : Env) (xs : List Value) (w : World), Ctxt.K w → denL e args = some xs → Calls P f xs.toArray w fun r w' => (∃ u, den e v = some u ∧ r = .returned u) ∧ Below w.heap.size w w') ∧ ClOK P
theorem clOK_no [C : Ctxt] {P : Program} (h : C.ab.cl = fun _ _ _ => none) : ClOK P := by
  intro f args base r bs hc
  have h : Ctxt.ab.cl = fun _ _ _ => none := h
  rw [h] at hc; cases hc
theorem pushAb_next : ∀ (bs : List (Tm × TypeId × Nat)) (M : Mem), (pushAb bs M).next = M.next + bs.length
  | [], M => rfl
  | b :: r, M => by rw [pushAb, pushAb_next r]; simp [Mem.push]; omega
theorem pushAb_at [Ctxt] : ∀ (bs : List (Tm × TypeId × Nat)) (M : Mem) (i : Nat), (pushAb bs M).at i = if M.next ≤ i ∧ i < M.next + bs.length then (bs[i - M.next]?).map fun b => ⟨[.ab b.1 b.2.1 b.2.2], 0, some 0⟩ else M.at i
  | [], M, i => by rw [pushAb, if_neg (by simp only [List.length_nil]; omega)]
  | b :: r, M, i => by
    rw [pushAb, pushAb_at r, Mem.at_push, show (M.push ⟨[.ab b.1 b.2.1 b.2.2], 0, some 0⟩).next = M.next + 1 from rfl, List.length_cons]
    by_cases h1 : M.next + 1 ≤ i ∧ i < M.next + 1 + r.length
    · rw [if_pos h1, if_pos (by omega), show i - M.next = (i - (M.next + 1)) + 1 by omega]
      rfl
    · rw [if_neg h1]
      by_cases h2 : i = M.next
      · rw [if_pos h2, if_pos (by omega), h2, Nat.sub_self]; rfl
      · rw [if_neg h2, if_neg (by omega)]
/-- Rows that a call has made. -/
theorem post_makes [Ctxt] {lim : Nat} {e : Env} {M : Mem} {w w' : World} (h : Rep e M w) (hl : Ctxt.pin ≤ lim ∧ lim ≤ M.next) (hb : Below w.heap.size w w') {bs : List (Tm × TypeId × Nat)} {ps : List (Nat × Nat)} (hn : ∀ i, M.next ≤ i → i < M.next + bs.length → e i = none)
    (hlen : ps.length = bs.length) (hge : ∀ p ∈ ps, w.heap.size ≤ p.1) (hnd : (ps.map (·.1)).Nodup) (hat : ∀ (j : Nat) p b, ps[j]? = some p → bs[j]? = some b → AbAt b p w') : Post lim e M w (envL e M.next ps) (pushAb bs M) w' := by
  have hle : Env.le e (envL e M.next ps) := fun i p hp => by
    unfold envL
    split
    · rename_i hi
      rw [hn i hi.1 (by rw [← hlen]; exact hi.2)] at hp; cases hp
    · exact hp
  have hin : ∀ i, M.next ≤ i → i < M.next + ps.length → envL e M.next ps i = ps[i - M.next]? := fun i h1 h2 => by unfold envL; rw [if_pos ⟨h1, h2⟩]
  have split : ∀ i c, (pushAb bs M).at i = some c → (∃ b, M.next ≤ i ∧ i < M.next + ps.length ∧ bs[i - M.next]? = some b ∧ c = ⟨[.ab b.1 b.2.1 b.2.2], 0, some 0⟩) ∨ (i < M.next ∧ M.at i = some c) := fun i c hc => by
    rw [pushAb_at] at hc
    split at hc
    · rename_i hi
      obtain ⟨b, hb, rfl⟩ := Option.map_eq_some_iff.1 hc
      exact .inl ⟨b, hi.1, by omega, hb, rfl⟩
    · exact .inr ⟨h.wf i c hc, hc⟩
  have hplace : ∀ i, M.next ≤ i → i < M.next + ps.length → ∃ p, ps[i - M.next]? = some p ∧ envL e M.next ps i = some p ∧ w.heap.size ≤ p.1 := fun i h1 h2 => by
    have hlt : i - M.next < ps.length := by omega
    have : ps[i - M.next]? = some (ps[i - M.next]'hlt) := by simp [hlt]
    exact ⟨_, this, (hin i h1 h2).trans this, hge _ (List.getElem_mem _)⟩
  have hold : ∀ i c, M.at i = some c → ∃ p, e i = some p ∧ envL e M.next ps i = some p ∧ p.1 < w.heap.size ∧ RepB (envL e M.next ps) c p w' := fun i c hc => by
    obtain ⟨p, hp, hB⟩ := h.blk i c hc
    exact ⟨p, hp, hle i p hp, hB.lt, hB.mono hle (hb.block _ hB.lt)⟩
  refine ⟨fun i hi => ?_, hle, by rw [pushAb_next]; omega, fun i hi => ?_, ⟨fun i c hc => ?_, fun i c hc => ?_, fun i j c d p q hc hd hp hq hpq => ?_, fun i p hi hp => ?_, by rw [pushAb_next]; have := h.pinN; omega, ⟨Ctxt.kst w _ h.rest.k (hb.mono h.rest.size), Nat.le_trans h.rest.size hb.size, fun i p hi hp => ?_⟩⟩, hb.size, fun b hb' _ => hb.block b hb', fun i c p hi hc hp => ?_, fun i c hi hc => ?_, hb.os, hb.tape, hb.output⟩
  · rw [pushAb_next] at hi
    unfold envL
    rw [if_neg (by omega)]
  · rw [pushAb_at, if_neg (by omega)]
  · rw [pushAb_next]
    rcases split i c hc with ⟨b, h1, h2, _⟩ | ⟨h1, _⟩ <;> omega
  · rcases split i c hc with ⟨b, h1, h2, h3, rfl⟩ | ⟨h1, h2⟩
    · obtain ⟨p, hp1, hp2, _⟩ := hplace i h1 h2
      obtain ⟨cc, g1, g2, g3, g4⟩ := hat _ p b hp1 h3
      exact ⟨p, hp2, ab_of g1 g2 g3 g4⟩
    · obtain ⟨p, _, g2, _, g4⟩ := hold i c h2
      exact ⟨p, g2, g4⟩
  · rcases split i c hc with ⟨b, h1, h2, h3, rfl⟩ | ⟨h1, h2⟩
    · obtain ⟨p', hp1, hp2, hp3⟩ := hplace i h1 h2
      rw [hp] at hp2; cases hp2
      rcases split j d hd with ⟨b', k1, k2, k3, rfl⟩ | ⟨k1, k2⟩
      · obtain ⟨q', hq1, hq2, hq3⟩ := hplace j k1 k2
        rw [hq] at hq2; cases hq2
        have hh := List.pairwise_iff_getElem.1 hnd
        obtain ⟨hi', hpi⟩ := List.getElem?_eq_some_iff.1 hp1
        obtain ⟨hj', hqj⟩ := List.getElem?_eq_some_iff.1 hq1
        have e1 : (ps.map (·.1))[i - M.next]'(by simpa using hi') = p.1 := by simp [hpi]
        have e2 : (ps.map (·.1))[j - M.next]'(by simpa using hj') = q.1 := by simp [hqj]
        refine Classical.byContradiction fun hij => ?_
        rcases Nat.lt_or_gt_of_ne (show i - M.next ≠ j - M.next by omega) with hlt | hlt
        · exact hh _ _ (by simpa using hi') (by simpa using hj') hlt (e1.trans (hpq.trans e2.symm))
        · exact hh _ _ (by simpa using hj') (by simpa using hi') hlt (e2.trans (hpq.symm.trans e1.symm))
      · obtain ⟨q', _, g2, g3, _⟩ := hold j d k2
        rw [hq] at g2; cases g2
        omega
    · obtain ⟨p', g1, g2, g3, _⟩ := hold i c h2
      rw [hp] at g2; cases g2
      rcases split j d hd with ⟨b', k1, k2, k3, rfl⟩ | ⟨k1, k2⟩
      · obtain ⟨q', hq1, hq2, hq3⟩ := hplace j k1 k2
        rw [hq] at hq2; cases hq2
        omega
      · obtain ⟨q', f1, f2, _, _⟩ := hold j d k2
        rw [hq] at f2; cases f2
        exact h.inj i j c d p q h2 k2 g1 f1 hpq
  · have := h.pinN
    unfold envL at hp
    rw [if_neg (by omega)] at hp
    exact h.pin i p hi hp
  · unfold envL at hp
    split at hp
    · have := hge p (List.mem_of_getElem? hp)
      have := h.rest.size
      omega
    · exact h.rest.new i p hi hp
  · rcases split i c hc with ⟨b, h1, h2, h3, rfl⟩ | ⟨h1, h2⟩
    · obtain ⟨p', hp1, hp2, hp3⟩ := hplace i h1 h2
      rw [hp] at hp2; cases hp2
      exact .inl hp3
    · omega
  · rcases split i c hc with ⟨b, h1, h2, h3, rfl⟩ | ⟨h1, h2⟩
    · omega
    · exact ⟨c, h2⟩

theorem post_below [Ctxt] {lim : Nat} {e : Env} {M : Mem} {w w' : World} (h : Rep e M w) (hb : Below w.heap.size w w') : Post lim e M w e M w' :=
  ⟨fun _ _ => rfl, .refl e, Nat.le_refl _, fun _ _ => rfl, ⟨h.wf, fun i b hi => by
    obtain ⟨p, hp, hB⟩ := h.blk i b hi
    exact ⟨p, hp, hB.mono (.refl e) (hb.block _ hB.lt)⟩, h.inj, h.pin, h.pinN, h.rest.step (hb.mono h.rest.size)⟩, hb.size, fun b hb' _ => hb.block b hb', fun i c p hi hc _ => absurd (h.wf i c hc) (by omega), fun i c _ hc => ⟨c, hc⟩, hb.os, hb.tape, hb.output⟩

theorem evalFn_ok [Ctxt] (hk : KnownOK P) {self : Nat → Code → Ev1} (hs : SelfOK P true self) : CallNext (evalFn P self) ∧ CallOK P (evalFn P self) := by
  obtain ⟨h1, h2⟩ := evalFn0_ok hs
  refine ⟨fun lim f args M v M' h => ?_, hk.1.1, fun lim f args M v M' h => ?_⟩
  · unfold evalFn at h
    split at h
    · simp at h; rw [h.2]; exact Nat.le_refl _
    split at h
    · simp at h; rw [← h.2, pushAb_next]; omega
    · exact h1 lim f args M v M' h
  · unfold evalFn at h
    split at h
    · rename_i v' hv
      simp at h; obtain ⟨rfl, rfl⟩ := h
      intro e w xs hx hR hl hn R hR'
      refine (hk.1.2 f args _ hv e xs w hR.rest.k hx).mono fun r w' hr => ?_
      obtain ⟨⟨u, hu, rfl⟩, hb⟩ := hr
      exact hR' e w' u hu (post_below hR hb)
    split at h
    · rename_i r hr
      obtain ⟨rv, bs⟩ := r
      simp at h; obtain ⟨rfl, rfl⟩ := h
      intro e w xs hx hR hl hn R hR'
      have hn' : ∀ i, M.next ≤ i → i < M.next + bs.length → e i = none := fun i h1 h2 => hn i h1 (by rw [pushAb_next]; exact h2)
      refine (hk.2 f _ _ _ _ hr e M w args xs rfl rfl hR hx hn').mono fun q w' hq => ?_
      obtain ⟨hb, ps, g1, g2, g3, g4, u, g5, rfl⟩ := hq
      exact hR' _ w' u g5 (post_makes hR hl hb hn' g1 g2 g3 g4)
    · exact h2 lim f args M v M' h

theorem CodeOK.seq [Ctxt] {rf : Bool} {lim : Nat} {x y : Code} {T T1 T' : Fr} {M M1 M' : Mem} {ex : Ex} (hx : CodeOK P rf lim x T M .normal T1 M1) (hy : CodeOK P rf lim y T1 M1 ex T' M') (h1 : M.next ≤ M1.next) (h2 : M1.next ≤ M'.next) : CodeOK P rf lim (.seq x y) T M ex T' M' :=
  fun ro nn hro e a w hT hd hR hl hn Q hQ => wpIn_seq (hx ro nn hro e a w hT hd hR hl (fun i g1 g2 => hn i g1 (by omega)) _ fun e1 a1 w1 hT1 hd1 hp1 =>
    hy ro nn hro e1 a1 w1 hT1 hd1 hp1.rep (by omega) (fun i g1 g2 => by rw [hp1.env i (.inr g1)]; exact hn i (by omega) g2) Q fun e' a' w' hT' hd' hp' => hQ e' a' w' hT' hd' (hp1.trans hp'))

theorem CodeOK.seq_out [Ctxt] {rf : Bool} {lim : Nat} {x y : Code} {T T' : Fr} {M M' : Mem} {ex : Ex} (hx : CodeOK P rf lim x T M ex T' M') (hex : ex.to ≠ .normal) : CodeOK P rf lim (.seq x y) T M ex T' M' :=
  fun ro nn hro e a w hT hd hR hl hn Q hQ => wpIn_seq (hx ro nn hro e a w hT hd hR hl hn _ fun e' a' w' hT' hd' hp' => by
    have := hQ e' a' w' hT' hd' hp'
    cases ex with
    | normal => exact absurd rfl hex
    | exit id => exact this
    | ret => exact this)

theorem evalLoop_ok [Ctxt] {rf : Bool} {lim : Nat} {c : Code} {f : Ev1} (hf : ∀ T M ex T' M', f T M = some (ex, T', M') → M.next ≤ M'.next ∧ CodeOK P rf lim c T M ex T' M') : ∀ (n : Nat) (T : Fr) (M : Mem) (ex : Ex) (T' : Fr) (M' : Mem), evalLoop f n T M = some (ex, T', M') →
    M.next ≤ M'.next ∧ ∀ (ro : Option Nat) (nn : Nat) (_ : rf = true → ro = none) (e : Env) (a : Act) (w : World), DT e T a → DF e T a → Rep e M w → (Ctxt.pin ≤ lim ∧ lim ≤ M.next) → (∀ i, M.next ≤ i → i < M'.next → e i = none) →
      ∀ (Q : Exit → Act → World → Prop), (∀ e' a' w', DT e' T' a' → DF e' T' a' → Post lim e M w e' M' w' → Q ex.to a' w') → Code.roundsIn (FW ro) nn P c Q n a w
  | 0, T, M, ex, T', M', h => by simp [evalLoop] at h
  | n + 1, T, M, ex, T', M', h => by
    have h : loopThen (evalLoop f n) (f T M) = some (ex, T', M') := h
    unfold loopThen at h
    split at h
    · rename_i T1 M1 hf1
      obtain ⟨h1, hok⟩ := hf T M .normal T1 M1 hf1
      obtain ⟨h2, ih⟩ := evalLoop_ok hf n T1 M1 ex T' M' h
      refine ⟨by omega, fun ro nn hro e a w hT hd hR hl hn Q hQ => ?_⟩
      rw [roundsIn_succ]
      exact hok ro nn hro e a w hT hd hR hl (fun i g1 g2 => hn i g1 (by omega)) _ fun e1 a1 w1 hT1 hd1 hp1 =>
        ih ro nn hro e1 a1 w1 hT1 hd1 hp1.rep (by omega) (fun i g1 g2 => by rw [hp1.env i (.inr g1)]; exact hn i (by omega) g2) Q fun e' a' w' hT' hd' hp' => hQ e' a' w' hT' hd' (hp1.trans hp')
    · rename_i hne
      obtain ⟨h1, hok⟩ := hf T M ex T' M' h
      refine ⟨h1, fun ro nn hro e a w hT hd hR hl hn Q hQ => ?_⟩
      rw [roundsIn_succ]
      refine hok ro nn hro e a w hT hd hR hl hn _ fun e' a' w' hT' hd' hp' => ?_
      have := hQ e' a' w' hT' hd' hp'
      cases ex with
      | normal => exact absurd h (hne T' M')
      | exit id => exact this
      | ret => exact this

theorem isTrueC_some {c : CV} {b : Bool} (h : isTrueC c = some b) : c = .clo (.bool b) := by
  unfold isTrueC at h
  split at h
  · cases h; rfl
  · cases h

theorem Rep.lp [Ctxt] {e : Env} {M : Mem} {w : World} (hR : Rep e M w) {l : Nat} {st pend tmps ps assign body d ty z} (h : M.at l = some ⟨[.lp st pend tmps ps assign body d], ty, z⟩) :
    ∃ p fn vs q, e l = some p ∧ w.heap[p.1]? = some (.loop { state := st, pending := pend, fn := fn, tmps := vs.toArray, params := ps, assign := assign, body := body, defers := q.1 }) ∧ denL e tmps = some vs ∧ e d = some q ∧ z = some 0 := by
  obtain ⟨p, hp, hB⟩ := hR.blk l _ h
  rcases hB with ⟨c, vs, fz, _, h2, _⟩ | ⟨hz, c, h1, _, h3⟩
  · simp [denL, den] at h2
  · simp only [List.cons.injEq, and_true] at h1
    subst h1
    obtain ⟨fn, vs, q, g1, g2, g3⟩ := h3
    exact ⟨p, fn, vs, q, hp, g1, g2, g3, hz⟩

theorem post_lp [Ctxt] {lim : Nat} {e : Env} {M : Mem} {w : World} (hR : Rep e M w) (hpi : Ctxt.pin ≤ lim) {l : Nat} (hl : lim ≤ l) {st pend tmps ps assign body d ty} (h : M.at l = some ⟨[.lp st pend tmps ps assign body d], ty, some 0⟩) {p : Nat × Nat} (hp : e l = some p) {r : Loop} (hr : w.heap[p.1]? = some (.loop r)) (st' : LoopState) (pend' : Option Code) :
    Post lim e M w e (M.set l (lpBlk ty st' pend' tmps ps assign body d)) (w.putObj p.1 (.loop { r with state := st', pending := pend' })) := by
  obtain ⟨p', fn, vs, q, g0, g1, g2, g3, _⟩ := hR.lp h
  rw [hp] at g0; cases g0
  rw [hr] at g1
  cases g1
  have hlt : p.1 < w.heap.size := (Array.getElem?_eq_some_iff.1 hr).1
  refine post_set hR hpi hl h hp (.inr ⟨rfl, _, rfl, rfl, fn, vs, q, ?_, g2, g3⟩) ?_ ?_ rfl rfl rfl
  · simp [World.putObj, hlt]
  · simp [World.putObj]
  · intro k hk
    exact World.putObj_heap_other hk

theorem putAll_DT [Ctxt] {e : Env} : ∀ (ps : List Nat) (args : List CV) (xs : List Value) (T : Fr) (a : Act), denL e args = some xs → DT e T a →
    DT e (putAll T (ps.zip args)) { a with tmps := (ps.zip xs).foldl (fun tmps x => tmps.setIfInBounds x.1 x.2) a.tmps }
  | [], args, xs, T, a, _, h => by simpa [putAll] using h
  | _ :: _, [], xs, T, a, hx, h => by
    simp [denL] at hx
    subst hx
    simpa [putAll] using h
  | t :: ps, v :: args, xs, T, a, hx, h => by
    obtain ⟨x, ys, rfl, h1, h2⟩ := denL_cons hx
    simp only [List.zip_cons_cons, putAll, List.foldl_cons]
    exact putAll_DT ps args ys (T.put t v) (a.put (some t) x) h2 (h.put h1 t)

theorem yield_run {P : Program} {w : World} {l : Nat} {r : Loop} (h : w.heap[l]? = some (.loop r)) {xs : List Value} (hs : xs.length = r.params.size) :
    (Instr.yield l xs.toArray).run P w = .ok (.round l r.fn ((r.params.toList.zip xs).foldl (fun tmps x => tmps.setIfInBounds x.1 x.2) r.tmps) r.assign r.body) w := by
  have e : (r.params.zip xs.toArray).foldl (fun tmps x => tmps.setIfInBounds x.1 x.2) r.tmps = (r.params.toList.zip xs).foldl (fun tmps x => tmps.setIfInBounds x.1 x.2) r.tmps := by
    rw [← Array.foldl_toList]
    simp
  rw [← e]
  simp [Instr.yield, Sem.run_bind, run_getLoop h, Result.andThen, hs]

theorem evalYield_ok [Ctxt] {P : Program} {self : Nat → Code → Ev1} (hs : SelfOK P false self) {lim l : Nat} {args : List CV} {M M' : Mem} {v : CV} (h : evalYield self lim l args M = some (v, M')) :
    M.next ≤ M'.next ∧ ∀ (e : Env) (w : World) (xs : List Value), denL e args = some xs → Rep e M w → (Ctxt.pin ≤ lim ∧ lim ≤ M.next) → (∀ i, M.next ≤ i → i < M'.next → e i = none) →
      ∃ p fn tmps assign body, e l = some p ∧ (Instr.yield p.1 xs.toArray).run P w = .ok (.round p.1 fn tmps assign body) w ∧
        ∀ (ro : Option Nat) (n : Nat) (R : Ending → World → Prop), (∀ e' w' u, den e' v = some u → Post lim e M w e' M' w' → R (.returned u) w') → RoundIn (FW ro) n P p.1 fn tmps assign body w R := by
  unfold evalYield at h
  cases hb : Nat.ble lim l with
  | false => rw [hb] at h; cases h
  | true =>
  rw [hb] at h
  simp only [cond_true] at h
  have hlim := Nat.le_of_ble_eq_true hb
  split at h
  case h_2 => cases h
  rename_i pend tmps ps assign body d ty hM
  rcases beq_cases args.length ps.size with ⟨hq, hlen⟩ | ⟨hq, _⟩
  case inr => rw [hq] at h; cases h
  rw [hq] at h
  simp only [cond_true] at h
  split at h
  case h_2 => cases h
  rename_i T1 M1 h1
  split at h
  case h_2 => cases h
  rename_i p2 t2 ps2 a2 b2 d2 ty2 hM1
  unfold endRound at h
  split at h
  case h_2 => cases h
  rename_i ex T2 M3 h2
  split at h
  case h_2 => cases h
  rename_i st3 p3 t3 ps3 a3 b3 d3 ty3 hM3
  simp only [Option.some.injEq, Prod.mk.injEq] at h
  obtain ⟨rfl, rfl⟩ := h
  obtain ⟨n1, ok1⟩ := hs lim assign _ M _ T1 M1 h1
  obtain ⟨n2, ok2⟩ := hs lim body T1 _ ex T2 M3 h2
  have n2 : M1.next ≤ M3.next := n2
  refine ⟨Nat.le_trans n1 n2, fun e w xs hx hR hl hn => ?_⟩
  have hn : ∀ i, M.next ≤ i → i < M3.next → e i = none := hn
  obtain ⟨p, fn, vs, q, hp, hw, hv, hd, _⟩ := hR.lp hM
  refine ⟨p, fn, _, assign, body, hp, yield_run hw (by rw [denL_length hx]; exact hlen), fun ro n R hRR => ?_⟩
  refine roundIn_of_wpIn (F := FW ro) trivial ?_
  have h0 : DT e (mkFr tmps.length tmps) { tmps := vs.toArray, defers := [] } := by
    have := DT.start (e := e) hv tmps.length
    simpa [denL_length hv] using this
  refine ok1 (some p.1) n (fun h => by cases h) e _ w (putAll_DT ps.toList args xs _ _ hx h0) ?_ hR hl (fun i g1 g2 => hn i g1 (by omega)) _ (fun e1 a1 w1 hT1 hd1 hp1 => ?_)
  · have : ∀ (l : List (Nat × CV)) (T : Fr), (putAll T l).ms = T.ms := by
      intro l
      induction l with
      | nil => intro T; rfl
      | cons x r ih => intro T; rw [putAll, ih, Fr.put_ms]
    unfold DF
    rw [this, mkFr_ms]
    rfl
  obtain ⟨p', fn2, vs2, q2, hp', hw2, _⟩ := hp1.rep.lp hM1
  have hpp := hp1.le l p hp
  rw [hpp] at hp'
  cases hp'
  have P1 := post_lp hp1.rep hl.1 hlim hM1 hpp hw2 .busy p2
  refine ⟨_, run_beginRound hw2 rfl, ?_⟩
  refine ok2 (some p.1) n (fun h => by cases h) e1 a1 _ hT1 hd1 P1.rep ⟨hl.1, Nat.le_trans hl.2 n1⟩ (fun i g1 g2 => by
    have g1 : M1.next ≤ i := g1
    rw [hp1.env i (.inr g1)]
    exact hn i (by omega) g2) _ (fun e2 a2 w2 hT2 hd2 hp2 => ?_)
  obtain ⟨p', fn3, vs3, q3, hp', hw3, _⟩ := hp2.rep.lp hM3
  have hpp2 := hp2.le l p hpp
  rw [hpp2] at hp'
  cases hp'
  have P3 := fun st pe => post_lp hp2.rep hl.1 hlim hM3 hpp2 hw3 st pe
  cases ex with
  | normal => exact ⟨_, _, run_endRound none hw3, hRR e2 _ _ rfl (hp1.trans (P1.trans (hp2.trans (P3 .ready none))))⟩
  | ret => exact ⟨_, _, run_endRound (some .ret) hw3, hRR e2 _ _ rfl (hp1.trans (P1.trans (hp2.trans (P3 .done (some .ret)))))⟩
  | exit id => exact ⟨_, _, run_endRound (some (.exit id)) hw3, hRR e2 _ _ rfl (hp1.trans (P1.trans (hp2.trans (P3 .done (some (.exit id))))))⟩

theorem denL_gets [Ctxt] {e : Env} {T : Fr} {a : Act} (hT : DT e T a) : denL e ((List.range T.n).map T.get) = some a.tmps.toList := by
  have : ∀ (l : List Nat), denL e (l.map T.get) = some (l.map fun i => a.tmps.getD i undef) := by
    intro l
    induction l with
    | nil => rfl
    | cons i r ih => simp only [List.map_cons, denL, hT.get i, ih, Option.bind_some, Option.map_some]
  rw [this, hT.n]
  congr 1
  apply List.ext_getElem?
  intro i
  simp only [List.getElem?_map, Array.getD_eq_getD_getElem?, Array.getElem?_toList]
  rcases Nat.lt_or_ge i a.tmps.size with h | h
  · simp [h]
  · simp [h]

theorem rangeGo_ok [Ctxt] {P : Program} {call : CallFn} (hnext : CallNext call) (hcall : CallOK P call) {lim : Nat} {g : Operand} {ps : Array Tmp} {assign body : Code} {T T' : Fr} {M M' : Mem} {ex : Ex}
    (h : rangeGo P call lim g ps assign body T M = some (ex, T', M')) : M.next ≤ M'.next ∧ CodeOK P true lim (.rangeFunc g ps assign body) T M ex T' M' := by
  unfold rangeGo at h
  split at h
  · cases h
  rename_i fid fa fb hcal
  split at h
  · cases h
  rename_i fn hfn
  cases hc : (fn.name == "runtime.NumGoroutine" || fn.body.isNone) with
  | true => rw [hc] at h; cases h
  | false =>
  rw [hc] at h
  simp only [cond_false] at h
  simp only [Bool.or_eq_false_iff] at hc
  unfold rangeOut at h
  split at h
  case h_2 => cases h
  rename_i v M2 hcl
  split at h
  case h_2 => cases h
  rename_i st pend t2 p2 a2 b2 d2 ty hM2
  cases hi : idle st with
  | false => rw [hi] at h; cases h
  | true =>
  rw [hi] at h
  simp only [cond_true] at h
  have n1 : M.next + 2 ≤ M2.next := hnext _ _ _ _ _ _ hcl
  have hend : (pend = none ∧ ex = .normal ∨ pend = some .ret ∧ ex = .ret ∨ ∃ id, pend = some (.exit id) ∧ ex = .exit id) ∧ T' = ⟨T.n, T.l, M.next :: T.ms⟩ ∧ M' = M2.set (M.next + 1) (lpBlk ty .exhausted pend t2 p2 a2 b2 d2) := by
    unfold rangeEnd at h
    split at h <;> simp at h
    · obtain ⟨rfl, rfl, rfl⟩ := h; exact ⟨.inl ⟨rfl, rfl⟩, rfl, rfl⟩
    · obtain ⟨rfl, rfl, rfl⟩ := h; exact ⟨.inr (.inl ⟨rfl, rfl⟩), rfl, rfl⟩
    · obtain ⟨rfl, rfl, rfl⟩ := h; exact ⟨.inr (.inr ⟨_, rfl, rfl⟩), rfl, rfl⟩
  obtain ⟨hex, rfl, rfl⟩ := hend
  refine ⟨by show M.next ≤ M2.next; omega, fun ro nn hro e a w hT hd hR hl hn Q hQ => ?_⟩
  have hn : ∀ i, M.next ≤ i → i < M2.next → e i = none := hn
  have hro := hro rfl
  subst hro
  obtain ⟨xs, ys, hfv, hx, hy⟩ := callee_den hcal (den_opd hT g)
  refine wpIn_rangeFunc (fun fnid _ => ?_)
  have Q1 := post_newB (lim := lim) (w1 := w) hR hl (hn _ (Nat.le_refl _) (by omega)) ⟨[.df], 0, some 0⟩ (.deferred (some [])) 0 (fun _ hnew => .inr ⟨rfl, _, rfl, rfl, hnew⟩) rfl rfl rfl rfl
  have hT1 := hT.mono Q1.le
  have hd1 : (e.upd M.next (w.heap.size, 0)) M.next = some (w.heap.size, 0) := by simp [Env.upd]
  have hnx : (M.push ⟨[.df], 0, some 0⟩).next = M.next + 1 := rfl
  have hsz : (w.alloc (.deferred (some []))).heap.size = w.heap.size + 1 := World.size_alloc ..
  have Q2 := post_newB (lim := lim) (w1 := w.alloc (.deferred (some []))) Q1.rep ⟨hl.1, by rw [hnx]; omega⟩ (by rw [hnx]; simp only [Env.upd]; rw [if_neg (by omega)]; exact hn _ (by omega) (by omega))
    (lpBlk 0 .ready none ((List.range T.n).map T.get) ps assign body M.next)
    (.loop { state := .ready, pending := none, fn := fnid, tmps := a.tmps, params := ps, assign := assign, body := body, defers := w.heap.size }) 0
    (fun hle hnew => .inr ⟨rfl, _, rfl, rfl, fnid, a.tmps.toList, (w.heap.size, 0), by simpa using hnew, denL_mono hle _ _ (denL_gets hT1), hle _ _ hd1⟩) rfl rfl rfl rfl
  have Q12 := Q1.trans Q2
  rw [hnx, hsz] at Q12 Q2
  have hp : ((e.upd M.next (w.heap.size, 0)).upd (M.next + 1) (w.heap.size + 1, 0)) (M.next + 1) = some (w.heap.size + 1, 0) := by simp [Env.upd]
  have hnm : ¬ (fn.name = "runtime.NumGoroutine") := by simpa using hc.1
  have hbn : fn.body ≠ none := by have := hc.2; intro h; rw [h] at this; cases this
  let W1 := (w.alloc (.deferred (some []))).alloc (.loop { state := .ready, pending := none, fn := fnid, tmps := a.tmps, params := ps, assign := assign, body := body, defers := w.heap.size })
  have hargs : denL ((e.upd M.next (w.heap.size, 0)).upd (M.next + 1) (w.heap.size + 1, 0)) (fa ++ [.yl (M.next + 1)] ++ fb) = some (xs ++ [Value.func (.yield (w.heap.size + 1)) #[] #[]] ++ ys) :=
    denL_append (denL_append (denL_mono Q12.le _ _ hx) (by simp [denL, den, hp])) (denL_mono Q12.le _ _ hy)
  obtain ⟨d, hres, hinv, hlead⟩ : ∃ d, (resolve a.eval (rangeCall g (w.heap.size + 1)) 0).run P W1 = .ok d W1 ∧ (invoke d.target d.args).run P W1 = .ok (.enter fid (xs ++ [Value.func (.yield (w.heap.size + 1)) #[] #[]] ++ ys).toArray) W1 ∧ True := by
    refine ⟨_, by simp [resolve, hfv, Deferred.ofValue]; rfl, ?_, trivial⟩
    simp [invoke, callFunc, program, Sem.run, hfn, hnm, hbn, Act.eval]
  refine ⟨w.heap.size + 1, _, W1, d, W1, fid, _, W1, run_enterLoop_outer _ _ _ _ _, hres, fun _ _ => trivial, hinv, (fun h => by cases h), callsIn_FW.2 ?_⟩
  refine hcall.2 lim fid _ _ v M2 hcl _ W1 _ hargs Q12.rep ⟨hl.1, by show lim ≤ M.next + 2; omega⟩ (fun i g1 g2 => ?_) _ (fun e3 w3 u hu hp3 => ?_)
  · have g1 : M.next + 2 ≤ i := g1
    simp only [Env.upd]
    rw [if_neg (by omega), if_neg (by omega)]
    exact hn i (by omega) g2
  · obtain ⟨p', fn2, vs2, q2, hp', hw2, _⟩ := hp3.rep.lp hM2
    have hpp := hp3.le _ _ hp
    rw [hpp] at hp'
    cases hp'
    have P3 := post_lp hp3.rep hl.1 (by omega) hM2 hpp hw2 .exhausted pend
    have fin := Q12.trans (hp3.trans P3)
    refine ⟨pend, _, run_endLoop hw2 (by intro hb; have hb : st = .busy := hb; subst hb; cases hi), ?_⟩
    have hle3 := fin.le
    have q := hQ _ { a with defers := [{ target := .collected w.heap.size, args := #[] }] ++ a.defers } _ ⟨hT.n, fun i => den_mono hle3 _ _ (hT.get i)⟩
      ⟨(w.heap.size, 0), a.defers, hp3.le _ _ (Q2.le _ _ hd1), rfl, hd.mono hle3⟩ fin
    rcases hex with ⟨rfl, rfl⟩ | ⟨rfl, rfl⟩ | ⟨id, rfl, rfl⟩
    · exact q
    · exact wpIn_ret q
    · exact wpIn_exit q

theorem stepC_ok [Ctxt] (hm : P.follows .mixedOrders = true) (hk : KnownOK P) {self : Bool → Nat → Code → Ev1} (hs : ∀ rf, SelfOK P rf (self rf)) (rf : Bool) : SelfOK P rf (stepC P rf self) := by
  intro lim c T M ex T' M' h
  unfold stepC at h
  split at h
  · simp at h; obtain ⟨rfl, rfl, rfl⟩ := h
    exact ⟨Nat.le_refl _, fun ro nn hro e a w hT hd hR _ _ Q hQ => wpIn_skip (hQ e a w hT hd (.refl hR))⟩
  · simp at h; obtain ⟨rfl, rfl, rfl⟩ := h
    exact ⟨Nat.le_refl _, fun ro nn hro e a w hT hd hR _ _ Q hQ => wpIn_label (hQ e a w hT hd (.refl hR))⟩
  · rename_i x y
    unfold seqThen at h
    split at h
    · rename_i T1 M1 hx
      obtain ⟨h1, ok1⟩ := hs rf lim x T M _ T1 M1 hx
      obtain ⟨h2, ok2⟩ := hs rf lim y T1 M1 ex T' M' h
      exact ⟨by omega, ok1.seq ok2 h1 h2⟩
    · rename_i hne
      obtain ⟨h1, ok1⟩ := hs rf lim x T M ex T' M' h
      refine ⟨h1, ok1.seq_out (fun he => ?_)⟩
      cases ex with
      | normal => exact hne T' M' h
      | exit id => cases he
      | ret => cases he
  · rename_i cnd x y
    unfold condGo at h
    split at h
    · rename_i t ht
      have ht := isTrueC_some ht
      obtain ⟨h1, ok⟩ := hs rf lim _ T M ex T' M' h
      refine ⟨h1, fun ro nn hro e a w hT hd hR hl hn Q hQ => ?_⟩
      have hc := den_opd hT cnd
      rw [ht] at hc
      refine wpIn_cond (t := t) (den_clo hc) ?_
      have := ok ro nn hro e a w hT hd hR hl hn Q hQ
      cases t <;> exact this
    · cases h
  · rename_i id x
    unfold blockEnd at h
    split at h
    · rename_i j T1 M1 hx
      obtain ⟨h1, ok⟩ := hs rf lim x T M _ T1 M1 hx
      simp at h; obtain ⟨rfl, rfl, rfl⟩ := h
      refine ⟨h1, fun ro nn hro e a w hT hd hR hl hn Q hQ => wpIn_block (ok ro nn hro e a w hT hd hR hl hn _ fun e' a' w' hT' hd' hp' => ?_)⟩
      have := hQ e' a' w' hT' hd' hp'
      show if j = id then Q .normal a' w' else Q (.exit j) a' w'
      rcases beq_cases j id with ⟨g1, g2⟩ | ⟨g1, g2⟩
      · rw [if_pos g2]; rw [g1] at this; exact this
      · rw [if_neg g2]; rw [g1] at this; exact this
    · rename_i hne
      obtain ⟨h1, ok⟩ := hs rf lim x T M ex T' M' h
      refine ⟨h1, fun ro nn hro e a w hT hd hR hl hn Q hQ => wpIn_block (ok ro nn hro e a w hT hd hR hl hn _ fun e' a' w' hT' hd' hp' => ?_)⟩
      have := hQ e' a' w' hT' hd' hp'
      cases ex with
      | normal => exact this
      | exit id => exact absurd h (hne id T' M')
      | ret => exact this
  · rename_i x
    obtain ⟨h1, ok⟩ := evalLoop_ok (P := P) (lim := lim) (c := x) (fun T M ex T' M' h => hs rf lim x T M ex T' M' h) 100000 T M ex T' M' h
    exact ⟨h1, fun ro nn hro e a w hT hd hR hl hn Q hQ => wpIn_loop_rounds 100000 (ok ro nn hro e a w hT hd hR hl hn Q hQ)⟩
  · rename_i id
    simp at h; obtain ⟨rfl, rfl, rfl⟩ := h
    exact ⟨Nat.le_refl _, fun ro nn hro e a w hT hd hR _ _ Q hQ => wpIn_exit (hQ e a w hT hd (.refl hR))⟩
  · simp at h; obtain ⟨rfl, rfl, rfl⟩ := h
    exact ⟨Nat.le_refl _, fun ro nn hro e a w hT hd hR _ _ Q hQ => wpIn_ret (hQ e a w hT hd (.refl hR))⟩
  · rename_i id ops
    unfold asNormal at h
    split at h
    · rename_i r hr
      simp at h
      obtain ⟨rfl, h⟩ := h
      subst h
      obtain ⟨hn1, hc1⟩ := evalFn_ok hk (hs true)
      have hyl : YldOK P (evalYield (self false)) := fun _ _ _ _ _ _ h => evalYield_ok (hs false) h
      obtain ⟨h1, ok⟩ := evalRegion_ok hm hn1 hc1 hyl hr
      exact ⟨h1, fun ro nn hro e a w hT hd hR hl hn Q hQ => ok id e a w hT hd hR hl hn Q hQ ro nn⟩
    · cases h
  · rename_i id ops
    unfold asNormal at h
    split at h
    · rename_i r hr
      simp at h
      obtain ⟨rfl, h⟩ := h
      subst h
      obtain ⟨hn1, hc1⟩ := evalFn_ok hk (hs true)
      have hyl : YldOK P (evalYield (self false)) := fun _ _ _ _ _ _ h => evalYield_ok (hs false) h
      refine ⟨evalOps_next hn1 hyl _ _ _ _ _ hr, fun ro nn hro e a w hT hd hR hl hn Q hQ => ?_⟩
      exact wpIn_region_list (evalOps_ok hn1 hc1 hyl _ _ _ _ _ hr e a w hT hd hR hl hn hQ ro nn)
    · cases h
  · rename_i x
    obtain ⟨h1, ok⟩ := hs rf lim x T M ex T' M' h
    refine ⟨h1, fun ro nn hro e a w hT hd hR hl hn Q hQ => wpIn_scope_straight (ok ro nn hro e a w hT hd hR hl hn _ fun e' a' w' hT' hd' hp' => ?_)⟩
    have := hQ e' a' w' hT' hd' hp'
    cases ex <;> exact this
  · cases rf with
    | false => cases h
    | true =>
      obtain ⟨hn1, hc1⟩ := evalFn_ok hk (hs true)
      exact rangeGo_ok hn1 hc1 h
  · cases h

theorem evalC_ok [Ctxt] (hm : P.follows .mixedOrders = true) (hk : KnownOK P) : ∀ n rf, SelfOK P rf (evalC P n rf)
  | 0 => fun rf lim c T M ex T' M' h => by simp [evalC] at h
  | n + 1 => fun rf => stepC_ok hm hk (evalC_ok hm hk n) rf

/-- **A call on values that are the same in every world, beside package variables that hold what is known of them**: what the working out yields is what the call returns; nothing that was there has changed. -/
theorem calls_beside [Ctxt] (hm : P.follows .mixedOrders = true) (hk : KnownOK P) {n : Nat} {f : FuncId} {args : List CV} {xs : List Value} (hx : denL (fun _ => none) args = some xs) {v : Value} (g : List (Nat × Blk)) (h : evalBeside P n f args g = some v) (w : World) (hK : Ctxt.K w) (hBs : Ctxt.B ≤ w.heap.size)
    (hg : ∀ i b, look g i = some b → i < Ctxt.pin ∧ b.row = none ∧ RepB (fun i => if i < Ctxt.pin then some (i, 0) else none) b (i, 0) w) :
    Calls P f xs.toArray w fun e w' => e = .returned v ∧ Below w.heap.size w w' := by
  unfold evalBeside at h
  split at h
  · rename_i v' M' hev
    simp at h; subst h
    obtain ⟨hn1, hc1⟩ := evalFn0_ok (evalC_ok hm hk n true)
    refine hc1 Ctxt.pin f _ _ _ _ hev (fun i => if i < Ctxt.pin then some (i, 0) else none) w xs (denL_mono (fun _ _ h => by cases h) _ _ hx) ⟨fun i b h => (hg i b h).1, fun i b h => ⟨(i, 0), by simp [(hg i b h).1], (hg i b h).2.2⟩, fun i j b c p q hb hc hp hq hpq => ?_, fun i p hi hp => ?_, Nat.le_refl _, hK, hBs, fun i p hi hp => ?_⟩ ⟨Nat.le_refl _, Nat.le_refl _⟩ (fun i hi _ => by
      show (if i < Ctxt.pin then some (i, 0) else none) = none
      rw [if_neg (show ¬ i < Ctxt.pin from by have : Ctxt.pin ≤ i := hi; omega)]) _ (fun e' w' u hu hp => ?_)
    · rw [if_pos (hg i b hb).1] at hp
      rw [if_pos (hg j c hc).1] at hq
      cases hp; cases hq; exact hpq
    · rw [if_pos hi] at hp; cases hp; rfl
    · rw [if_neg (by omega)] at hp; cases hp
    · have := den_clo hu
      subst this
      refine ⟨rfl, hp.os, hp.tape, hp.output, hp.size, fun k hk => ?_⟩
      by_cases hkg : ∃ b, look g k = some b
      · -- a package variable: it was not written
        obtain ⟨b, hb⟩ := hkg
        obtain ⟨hkp, hrow, hB0⟩ := hg k b hb
        obtain ⟨c, vs, fz, h1, h2, h3, hz, h4⟩ := hB0.ofRow (by rw [hrow]; exact fun h => by cases h)
        have hlow : M'.at k = some b := (hp.low k hkp).trans hb
        obtain ⟨p, hpk, hB1⟩ := hp.rep.blk k b hlow
        obtain ⟨c', vs', fz', g1, g2, g3, gz, g4⟩ := hB1.ofRow (by rw [hrow]; exact fun h => by cases h)
        rw [hp.env k (.inl hkp), if_pos hkp] at hpk
        cases hpk
        rw [denL_mono hp.le _ _ h2] at g2
        cases g2
        rw [hrow] at h4 g4 hz gz
        have hz : fz = (0, 0) := hz.resolve_left fun h => by cases h
        have gz : fz' = (0, 0) := gz.resolve_left fun h => by cases h
        subst hz; subst gz
        have e1 : c.toList = vs := by rw [← h3, List.take_of_length_le (by simp; omega)]
        have e2 : c'.toList = vs := by rw [← g3, List.take_of_length_le (by simp; omega)]
        have e3 : c' = c := Array.ext' (e2.trans e1.symm)
        rw [h1, g1, e3]
      · exact hp.kept k hk (fun i c p hi hpi hpk => by
          have h1 := (hg i c hi).1
          rw [if_pos h1] at hpi
          cases hpi
          exact hkg ⟨c, by rw [← hpk]; exact hi⟩)
  · cases h
end

/-- Where nothing is told. -/
abbrev noVars : Ctxt := ⟨0, ints fun _ => (.i64, 0), fun _ _ => none, fun _ _ _ _ => none, fun _ _ => none, fun _ => True, 0, fun _ _ _ _ => trivial, .no⟩

theorem calls_closed {P : Program} (hm : P.follows .mixedOrders = true) {n : Nat} {f : FuncId} {args : List Value} {v : Value} (h : @evalBeside noVars P n f (args.map .clo) [] = some v) (w : World) :
    Calls P f args.toArray w fun e w' => e = .returned v ∧ Below w.heap.size w w' :=
  @calls_beside P noVars hm ⟨⟨⟨⟨@abOK_no noVars _ rfl, (fun _ _ _ h => by cases h)⟩, (fun _ _ _ _ _ h => by cases h)⟩, (fun _ _ _ h => by cases h)⟩, @clOK_no noVars _ rfl⟩ n f _ args (@denL_clo noVars _ _) v [] h w trivial (Nat.zero_le _) (fun i b h => by simp [look_nil] at h)

end Go.Ev
