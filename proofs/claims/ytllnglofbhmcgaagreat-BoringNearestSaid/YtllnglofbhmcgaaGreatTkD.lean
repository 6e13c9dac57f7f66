/- Calls worked out whose results are new rows. -/
import Derived.Test.YtllnglofbhmcgaaGreatTkC
namespace Go.Ev
open Go.RowKit
noncomputable def outF (ns : List Nat) : Option (CV × Mem) → Option (CV × List (Option Blk))
  | some (c, M) => some (c, ns.map M.at)
  | none => none
/-- **A call, worked out** beside told lists: its result may hold new rows. -/
theorem calls_toldX {P : Program} (hm : P.follows .mixedOrders = true) (sym : Tm → Sym) (A : Abs) (lc : List KCall) (le : List KEq) (lv : List KOp) (K : World → Prop) (B : Nat) (kst : ∀ w w', K w → Below B w w' → K w')
    (hA : A.OK P sym) (hcl : ∀ r ∈ A.cl, ClIs P sym A.lst K r) (hc : ∀ r ∈ lc, CallAt P sym K r) (he : ∀ r ∈ le, EqIs P sym r) (hv : ∀ r ∈ lv, OpAt P sym K r)
    {n : Nat} {f : FuncId} {args : List CV} {xs : List Value} (hx : @denL (told sym [] []) (fun _ => none) args = some xs) (want : CV) (ns : List Nat) (bc : List (Option Blk))
    (h : outF ns (evalFn0 P (@evalC (toldX sym A lc le lv K B kst) P n true) 0 f args ⟨0, []⟩) = some (want, bc)) (w : World) (hK : K w) (hB : B ≤ w.heap.size) :
    Calls P f xs.toArray w fun q w' => Below w.heap.size w w' ∧ ∃ e' : Env, (∃ u, @den (told sym [] []) e' want = some u ∧ q = .returned u) ∧
      (∀ (j i : Nat) (b : Blk), ns[j]? = some i → bc[j]? = some (some b) → ∃ p, e' i = some p ∧ @RepB (toldX sym A lc le lv K B kst) e' b p w' ∧ w.heap.size ≤ p.1) ∧
      (∀ (j k i i' : Nat) (b b' : Blk) (p p' : Nat × Nat), ns[j]? = some i → ns[k]? = some i' → bc[j]? = some (some b) → bc[k]? = some (some b') → e' i = some p → e' i' = some p' → p.1 = p'.1 → i = i') := by
  letI : Ctxt := toldX sym A lc le lv K B kst
  have hk : KnownOK P := known_toldX hA hcl hc he hv
  unfold outF at h
  split at h
  · rename_i c M' hev
    simp only [Option.some.injEq, Prod.mk.injEq] at h
    obtain ⟨rfl, rfl⟩ := h
    obtain ⟨hn1, hc1⟩ := evalFn0_ok (evalC_ok hm hk n true)
    have hx' : denL (fun _ => none) args = some xs := up_denL hx
    refine hc1 0 f _ _ _ _ hev (fun _ => none) w xs hx' ⟨fun i b h => by simp [Mem.at, look_nil] at h, fun i b h => by simp [Mem.at, look_nil] at h, fun i j b c p q hb => by simp [Mem.at, look_nil] at hb, fun i p hi => by simp, Nat.le_refl _, ⟨hK, hB, fun i p hi hp => by cases hp⟩⟩ ⟨Nat.le_refl _, Nat.le_refl _⟩ (fun _ _ _ => rfl) _ (fun e' w' u' hu' hp => ?_)
    refine ⟨⟨hp.os, hp.tape, hp.output, hp.size, fun k hk => hp.kept k hk (fun i c p hi => by simp [Mem.at, look_nil] at hi)⟩, e', ⟨u', (den_symE (C := told sym [] []) (D := toldX sym A lc le lv K B kst) rfl _).trans hu', rfl⟩, fun j i b hi hb => ?_, fun j k i i' b b' p p' hi hi' hb hb' hp1 hp2 hpp => ?_⟩
    · have hM : M'.at i = some b := by
        rw [List.getElem?_map, hi] at hb
        simpa using hb
      obtain ⟨p, hp1, hB1⟩ := hp.rep.blk i b hM
      refine ⟨p, hp1, hB1, ?_⟩
      rcases hp.fresh i b p (Nat.zero_le _) hM hp1 with hf | ⟨j', d, q, _, hd, _⟩
      · exact hf
      · simp [Mem.at, look_nil] at hd
    · have hM : M'.at i = some b := by
        rw [List.getElem?_map, hi] at hb
        simpa using hb
      have hM' : M'.at i' = some b' := by
        rw [List.getElem?_map, hi'] at hb'
        simpa using hb'
      exact hp.rep.inj i i' b b' p p' hM hM' hp1 hp2 hpp
  · cases h
/-- A slice that a call is given: its elements' cells lie in the world one behind the other. -/
def SlAt (L : List Value) (z : Nat) (v : Value) (w : World) : Prop :=
  ∃ a n c, v = .slice a n c ∧ L.length = n * z ∧ ∀ a', a = some a' → ∀ j x, L[j]? = some x → w.cell? (a'.add j) = some x
end Go.Ev
