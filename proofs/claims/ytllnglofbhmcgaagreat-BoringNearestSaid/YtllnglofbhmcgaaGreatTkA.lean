/- Told calls whose results hold symbols, in worlds that keep a condition. -/
import Derived.Test.YtllnglofbhmcgaaGreatLpA
import Derived.Test.YtllnglofbhmcgaaGreatTsA
namespace Go.Ev
open Go.RowKit
/-- What a known operation must do in the worlds of a condition. -/
def OpAt (P : Program) (sym : Tm → Sym) (K : World → Prop) (r : KOp) : Prop :=
  ∃ xs u, @denL (told sym [] []) (fun _ => none) r.2.1 = some xs ∧ @den (told sym [] []) (fun _ => none) r.2.2 = some u ∧ TellsIn P K r.1 xs u
theorem OpIs.at {P : Program} {sym : Tm → Sym} {r : KOp} (h : OpIs P sym r) (K : World → Prop) : OpAt P sym K r := by
  obtain ⟨xs, u, h1, h2, h3⟩ := h
  exact ⟨xs, u, h1, h2, h3.in K⟩
theorem known_toldK {P : Program} (pin : Nat) (sym : Tm → Sym) (lc : List KCall) (le : List KEq) (lv : List KOp) (K : World → Prop) (B : Nat) (kst : ∀ w w', K w → Below B w w' → K w') (hc : ∀ r ∈ lc, CallAt P sym K r) (he : ∀ r ∈ le, EqIs P sym r) (hv : ∀ r ∈ lv, OpAt P sym K r) :
    @KnownOK (toldK pin sym lc le lv K B kst) P := by
  refine ⟨⟨⟨⟨@abOK_no (toldK pin sym lc le lv K B kst) _ rfl, fun k cs v hkv e ys hys => ?_⟩, fun op t x y b hb => ?_⟩, fun f args v hv e ys w hKw hys => ?_⟩, @clOK_no (toldK pin sym lc le lv K B kst) P rfl⟩
  · have hkv : tabV lv k cs = some v := hkv
    obtain ⟨ys', u, g1, g2, g3⟩ := hv _ (tabV_mem hkv)
    simp only at g1 g2 g3
    have m1 := @denL_mono (told sym [] []) _ e (fun i p h => by cases h) cs ys' g1
    rw [denL_told (n := 0) (b := []) (d := []) (q := []) (L := fun _ => True) (D := 0) (hL := fun _ _ _ _ => trivial)] at hys
    rw [hys] at m1
    cases m1
    refine ⟨u, ?_, g3⟩
    rw [den_told (n := 0) (b := []) (d := []) (q := []) (L := fun _ => True) (D := 0) (hL := fun _ _ _ _ => trivial)]
    exact @den_mono (told sym [] []) _ e (fun i p h => by cases h) v u g2
  · intro e xv yv hxv hyv w xo yo
    have hb : tabE le op t x y = some b := hb
    unfold tabE at hb
    split at hb
    · cases hb
    · rename_i p hp
      split at hb
      · cases hb
      · rename_i b' hb'
        obtain ⟨xv', yv', g1, g2, g3, g4⟩ := he _ (tabE0_mem hb')
        simp only at g1 g2 g3 g4
        have m1 := @den_mono (told sym [] []) _ e (fun i p h => by cases h) x xv' g1
        have m2 := @den_mono (told sym [] []) _ e (fun i p h => by cases h) y yv' g2
        rw [den_told (n := 0) (b := []) (d := []) (q := []) (L := fun _ => True) (D := 0) (hL := fun _ _ _ _ => trivial)] at hxv hyv
        rw [hxv] at m1; rw [hyv] at m2
        cases m1; cases m2
        cases op <;> simp [isEql] at hp <;> subst hp <;> simp at hb <;> subst hb
        · rw [Sem.run_bind, (g3 w xo yo).1, Result.andThen_ok, (g4 w).1]
        · rw [Sem.run_bind, (g3 w xo yo).2, Result.andThen_ok, (g4 w).2, Bool.not_not]
  · obtain ⟨ys', u, g1, g2, g3⟩ := hc _ (tabC_mem hv)
    simp only at g1 g2 g3
    have m1 := @denL_mono (told sym [] []) _ e (fun i p h => by cases h) args ys' g1
    rw [denL_told (n := 0) (b := []) (d := []) (q := []) (L := fun _ => True) (D := 0) (hL := fun _ _ _ _ => trivial)] at hys
    rw [hys] at m1
    cases m1
    refine (g3 w hKw).mono fun q w' ⟨h1, h2⟩ => ⟨⟨u, ?_, h1⟩, h2⟩
    rw [den_told (n := 0) (b := []) (d := []) (q := []) (L := fun _ => True) (D := 0) (hL := fun _ _ _ _ => trivial)]
    exact @den_mono (told sym [] []) _ e (fun i p h => by cases h) v u g2
def resC : Option (CV × Mem) → Option CV
  | some (c, _) => some c
  | none => none
/-- **A call, worked out**, whose result may hold symbols, in worlds that keep a condition. -/
theorem calls_toldM {P : Program} (hm : P.follows .mixedOrders = true) (sym : Tm → Sym) (lc : List KCall) (le : List KEq) (lv : List KOp) (K : World → Prop) (B : Nat) (kst : ∀ w w', K w → Below B w w' → K w') (hc : ∀ r ∈ lc, CallAt P sym K r) (he : ∀ r ∈ le, EqIs P sym r) (hv : ∀ r ∈ lv, OpAt P sym K r)
    {n : Nat} {f : FuncId} {args : List CV} {xs : List Value} (hx : @denL (told sym [] []) (fun _ => none) args = some xs) (want : CV) {u : Value}
    (h : resC (evalFn0 P (@evalC (toldK 0 sym lc le lv K B kst) P n true) 0 f args ⟨0, []⟩) = some want) (hu : @den (told sym [] []) (fun _ => none) want = some u) (w : World) (hK : K w) (hB : B ≤ w.heap.size) :
    Calls P f xs.toArray w fun e w' => e = .returned u ∧ Below w.heap.size w w' := by
  letI : Ctxt := toldK 0 sym lc le lv K B kst
  have hk : KnownOK P := known_toldK 0 sym lc le lv K B kst hc he hv
  unfold resC at h
  split at h
  · rename_i c M' hev
    cases h
    obtain ⟨hn1, hc1⟩ := evalFn0_ok (evalC_ok hm hk n true)
    have hx' : denL (fun _ => none) args = some xs := (denL_told (sym := sym) (m := 0) (n := 0) (a := lc) (b := []) (c := le) (d := []) (p := lv) (q := []) (K := K) (L := fun _ => True) (B := B) (D := 0) (hK := kst) (hL := fun _ _ _ _ => trivial) args).trans hx
    have hu0 : den (fun _ => none) want = some u := (den_told (sym := sym) (m := 0) (n := 0) (a := lc) (b := []) (c := le) (d := []) (p := lv) (q := []) (K := K) (L := fun _ => True) (B := B) (D := 0) (hK := kst) (hL := fun _ _ _ _ => trivial) want).trans hu
    refine hc1 0 f _ _ _ _ hev (fun _ => none) w xs hx' ⟨fun i b h => by simp [Mem.at, look_nil] at h, fun i b h => by simp [Mem.at, look_nil] at h, fun i j b c p q hb => by simp [Mem.at, look_nil] at hb, fun i p hi => by simp, Nat.le_refl _, ⟨hK, hB, fun i p hi hp => by cases hp⟩⟩ ⟨Nat.le_refl _, Nat.le_refl _⟩ (fun _ _ _ => rfl) _ (fun e' w' u' hu' hp => ?_)
    have := den_mono hp.le want u hu0
    rw [this] at hu'
    cases hu'
    exact ⟨rfl, hp.os, hp.tape, hp.output, hp.size, fun k hk => hp.kept k hk (fun i c p hi => by simp [Mem.at, look_nil] at hi)⟩
  · cases h
theorem calls_toldR {P : Program} (hm : P.follows .mixedOrders = true) (sym : Tm → Sym) (lc : List KCall) (le : List KEq) (lv : List KOp) (K : World → Prop) (B : Nat) (kst : ∀ w w', K w → Below B w w' → K w') (hc : ∀ r ∈ lc, CallAt P sym K r) (he : ∀ r ∈ le, EqIs P sym r) (hv : ∀ r ∈ lv, OpIs P sym r)
    {n : Nat} {f : FuncId} {args : List CV} {xs : List Value} (hx : @denL (told sym [] []) (fun _ => none) args = some xs) (want : CV) {u : Value}
    (h : resC (evalFn0 P (@evalC (toldK 0 sym lc le lv K B kst) P n true) 0 f args ⟨0, []⟩) = some want) (hu : @den (told sym [] []) (fun _ => none) want = some u) (w : World) (hK : K w) (hB : B ≤ w.heap.size) :
    Calls P f xs.toArray w fun e w' => e = .returned u ∧ Below w.heap.size w w' :=
  calls_toldM hm sym lc le lv K B kst hc he (fun r hr => (hv r hr).at K) hx want h hu w hK hB
variable {P : Program}
theorem tells_slcBoth {t : TypeId} {s : ByteArray} {k k' : IntKind} {i j : Nat} (hu : P.underlying t = some .string) (hi : i ≤ j) (hj : j ≤ s.size) : Tells P (.slc t true true) [.string s, .int k (i : Int), .int k' (j : Int)] (.string (s.extract i j)) := by
  intro o ρ xs hk hx w
  obtain ⟨dst, oo, type, pos, after, guard⟩ := o
  obtain ⟨x, l, h', ho, hl, hh, rfl⟩ := opKey_slc hk
  simp only at ho; subst ho
  cases l with
  | none => cases hl
  | some l =>
    cases h' with
    | none => cases hh
    | some y =>
      simp at hx
      obtain ⟨h1, h2, h4⟩ := hx
      have h3 : (0 : Int) ≤ (j : Int) := by omega
      have h5 : (0 : Int) ≤ (i : Int) := by omega
      simp [execOp, h1, h2, h4, Instr.sliceAt, Instr.slice, Instr.sliceBounds, Instr.sliceBound, asIntOf, run_underlying hu, h3, h5, hj, hi]
end Go.Ev
