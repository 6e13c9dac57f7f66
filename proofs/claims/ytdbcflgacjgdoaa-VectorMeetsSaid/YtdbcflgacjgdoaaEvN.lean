/- An evaluation that is told the results of calls and comparisons: lists of them. -/
import Derived.Test.YtdbcflgacjgdoaaEvM
namespace Go.Ev
open Go.RowKit

mutual
/-- The same symbols, in the same places. -/
def eqC : CV → CV → Bool
  | .sy i, .sy j => Nat.beq i j
  | .agg l, .agg m => eqCL l m
  | .tup l, .tup m => eqCL l m
  | _, _ => false
def eqCL : List CV → List CV → Bool
  | [], [] => true
  | x :: r, y :: s => eqC x y && eqCL r s
  | _, _ => false
end

mutual
theorem eqC_eq : ∀ (x y : CV), eqC x y = true → x = y
  | .sy i, y, h => by
    cases y <;> simp only [eqC] at h <;> first | (cases h; done) | skip
    rw [Nat.eq_of_beq_eq_true h]
  | .agg l, y, h => by
    cases y <;> simp only [eqC] at h <;> first | (cases h; done) | skip
    rw [eqCL_eq l _ h]
  | .tup l, y, h => by
    cases y <;> simp only [eqC] at h <;> first | (cases h; done) | skip
    rw [eqCL_eq l _ h]
  | .clo v, y, h => by cases y <;> simp [eqC] at h
  | .ptr i o, y, h => by cases y <;> simp [eqC] at h
  | .sl i o n c s, y, h => by cases y <;> simp [eqC] at h
  | .fn f a b, y, h => by cases y <;> simp [eqC] at h
theorem eqCL_eq : ∀ (l m : List CV), eqCL l m = true → l = m
  | [], m, h => by cases m <;> simp [eqCL] at h; rfl
  | x :: r, m, h => by
    cases m with
    | nil => simp [eqCL] at h
    | cons y s =>
      simp only [eqCL, Bool.and_eq_true] at h
      rw [eqC_eq x y h.1, eqCL_eq r s h.2]
end

/-- A call whose result is known: the function, the arguments, the result. -/
abbrev KCall := FuncId × List CV × CV
/-- A comparison whose result is known: the type, both sides, whether they are equal. -/
abbrev KEq := TypeId × CV × CV × Bool

def tabC : List KCall → FuncId → List CV → Option CV
  | [], _, _ => none
  | r :: l, f, args => cond (Nat.beq r.1 f && eqCL r.2.1 args) (some r.2.2) (tabC l f args)

theorem tabC_mem : ∀ {l : List KCall} {f : FuncId} {args : List CV} {v : CV}, tabC l f args = some v → (f, args, v) ∈ l
  | [], _, _, _, h => by simp [tabC] at h
  | r :: l, f, args, v, h => by
    rw [tabC, Bool.cond_eq_ite] at h
    split at h
    · rename_i hc
      simp only [Bool.and_eq_true] at hc
      simp at h
      have h1 := Nat.eq_of_beq_eq_true hc.1
      have h2 := eqCL_eq _ _ hc.2
      obtain ⟨f', args', v'⟩ := r
      simp only at h h1 h2
      subst h; subst h1; subst h2
      exact List.mem_cons_self ..
    · exact List.mem_cons_of_mem _ (tabC_mem h)

def isEql : BinOp → Option Bool
  | .eql => some true
  | .neq => some false
  | _ => none

def tabE0 : List KEq → TypeId → CV → CV → Option Bool
  | [], _, _, _ => none
  | r :: l, t, x, y => cond (Nat.beq r.1 t && eqC r.2.1 x && eqC r.2.2.1 y) (some r.2.2.2) (tabE0 l t x y)

def tabE (l : List KEq) (op : BinOp) (t : TypeId) (x y : CV) : Option Bool :=
  match isEql op with
  | none => none
  | some p =>
    match tabE0 l t x y with
    | none => none
    | some b => some (cond p b (!b))

theorem tabE0_mem : ∀ {l : List KEq} {t : TypeId} {x y : CV} {b : Bool}, tabE0 l t x y = some b → (t, x, y, b) ∈ l
  | [], _, _, _, _, h => by simp [tabE0] at h
  | r :: l, t, x, y, b, h => by
    rw [tabE0, Bool.cond_eq_ite] at h
    split at h
    · rename_i hc
      simp only [Bool.and_eq_true] at hc
      simp at h
      have h1 := Nat.eq_of_beq_eq_true hc.1.1
      have h2 := eqC_eq _ _ hc.1.2
      have h3 := eqC_eq _ _ hc.2
      obtain ⟨t', x', y', b'⟩ := r
      simp only at h h1 h2 h3
      subst h; subst h1; subst h2; subst h3
      exact List.mem_cons_self ..
    · exact List.mem_cons_of_mem _ (tabE0_mem h)

abbrev told (sym : Nat → IntKind × Int) (lc : List KCall) (le : List KEq) : Ctxt := ⟨0, sym, tabC lc, tabE le⟩

/-- What a known call must do, in words of values. -/
def CallIs (P : Program) (sym : Nat → IntKind × Int) (r : KCall) : Prop :=
  ∃ xs u, @denL (told sym [] []) (fun _ => none) r.2.1 = some xs ∧ @den (told sym [] []) (fun _ => none) r.2.2 = some u ∧
    ∀ w, Calls P r.1 xs.toArray w fun q w' => q = .returned u ∧ Below w.heap.size w w'

/-- What a known comparison must do. -/
def EqIs (P : Program) (sym : Nat → IntKind × Int) (r : KEq) : Prop :=
  ∃ xv yv, @den (told sym [] []) (fun _ => none) r.2.1 = some xv ∧ @den (told sym [] []) (fun _ => none) r.2.2.1 = some yv ∧
    (∀ w xo yo, (eqGuard .eql r.1 xo yo xv yv).run P w = .ok () w ∧ (eqGuard .neq r.1 xo yo xv yv).run P w = .ok () w) ∧ ∀ w, (binOp .eql r.1 xv yv).run P w = .ok (.bool r.2.2.2) w ∧ (binOp .neq r.1 xv yv).run P w = .ok (.bool (!r.2.2.2)) w

mutual
theorem den_told {sym : Nat → IntKind × Int} {a b : List KCall} {c d : List KEq} {e : Env} : ∀ (x : CV), @den (told sym a c) e x = @den (told sym b d) e x
  | .clo v => rfl
  | .ptr i o => rfl
  | .sl i o n k s => rfl
  | .sy i => rfl
  | .fn f l m => by simp only [den, denL_told (b := b) (d := d) l, denL_told (b := b) (d := d) m]
  | .agg l => by simp only [den, denL_told (b := b) (d := d) l]
  | .tup l => by simp only [den, denL_told (b := b) (d := d) l]
theorem denL_told {sym : Nat → IntKind × Int} {a b : List KCall} {c d : List KEq} {e : Env} : ∀ (l : List CV), @denL (told sym a c) e l = @denL (told sym b d) e l
  | [] => rfl
  | x :: r => by simp only [denL, den_told (b := b) (d := d) x, denL_told (b := b) (d := d) r]
end

/-- **A call that is worked out where the results of some calls and comparisons are told.** -/
theorem calls_told {P : Program} (hm : P.follows .mixedOrders = true) (sym : Nat → IntKind × Int) (lc : List KCall) (le : List KEq) (hc : ∀ r ∈ lc, CallIs P sym r) (he : ∀ r ∈ le, EqIs P sym r)
    {n : Nat} {f : FuncId} {args : List CV} {xs : List Value} (hx : @denL (told sym [] []) (fun _ => none) args = some xs) {v : Value} (h : @evalBeside (told sym lc le) P n f args [] = some v) (w : World) :
    Calls P f xs.toArray w fun e w' => e = .returned v ∧ Below w.heap.size w w' := by
  refine @calls_beside P (told sym lc le) hm ⟨fun op t x y b hb => ?_, fun f args v hv e ys w hys => ?_⟩ n f args xs ?_ v [] h w (fun i b h => by simp [look_nil] at h)
  · intro e xv yv hxv hyv w xo yo
    have hb : tabE le op t x y = some b := hb
    unfold tabE at hb
    split at hb
    · cases hb
    · rename_i p hp
      split at hb
      · cases hb
      · rename_i b' hb'
        obtain ⟨xv', yv', g1, g2, g3, g4⟩ := he _ (tabE0_mem hb')
        simp only at g1 g2 g3 g4
        have m1 := @den_mono (told sym [] []) _ e (fun i p h => by cases h) x xv' g1
        have m2 := @den_mono (told sym [] []) _ e (fun i p h => by cases h) y yv' g2
        rw [den_told (b := []) (d := [])] at hxv hyv
        rw [hxv] at m1; rw [hyv] at m2
        cases m1; cases m2
        cases op <;> simp [isEql] at hp <;> subst hp <;> simp at hb <;> subst hb
        · rw [Sem.run_bind, (g3 w xo yo).1, Result.andThen_ok, (g4 w).1]
        · rw [Sem.run_bind, (g3 w xo yo).2, Result.andThen_ok, (g4 w).2, Bool.not_not]
  · obtain ⟨ys', u, g1, g2, g3⟩ := hc _ (tabC_mem hv)
    simp only at g1 g2 g3
    have m1 := @denL_mono (told sym [] []) _ e (fun i p h => by cases h) args ys' g1
    rw [denL_told (b := []) (d := [])] at hys
    rw [hys] at m1
    cases m1
    refine (g3 w).mono fun q w' ⟨h1, h2⟩ => ⟨⟨u, ?_, h1⟩, h2⟩
    rw [den_told (b := []) (d := [])]
    exact @den_mono (told sym [] []) _ e (fun i p h => by cases h) v u g2
  · rw [denL_told (b := []) (d := [])]; exact hx

end Go.Ev
