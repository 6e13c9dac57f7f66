/- An evaluation that is told the results of calls and comparisons: lists of them. -/
import Derived.Test.YtllnglofbhmcgaaGreatEvM
namespace Go.Ev
open Go.RowKit

def eqBytes : List UInt8 → List UInt8 → Bool
  | [], [] => true
  | x :: r, y :: s => Nat.beq x.toNat y.toNat && eqBytes r s
  | _, _ => false
theorem eqBytes_eq : ∀ {l m : List UInt8}, eqBytes l m = true → l = m
  | [], [], _ => rfl
  | x :: r, y :: s, h => by
    simp only [eqBytes, Bool.and_eq_true] at h
    rw [UInt8.toNat_inj.1 (Nat.eq_of_beq_eq_true h.1), eqBytes_eq h.2]
  | [], _ :: _, h => by cases h
  | _ :: _, [], h => by cases h
/-- The same number or truth value. -/
def eqAtom : Value → Value → Bool
  | .int k a, .int k' b => Nat.beq (kindIx k) (kindIx k') && intEq a b
  | .bool a, .bool b => cond a b (!b)
  | .string a, .string b => eqBytes a.data.toList b.data.toList
  | .nilIface, .nilIface => true
  | .func (.func f) ⟨[]⟩ ⟨[]⟩, .func (.func g) ⟨[]⟩ ⟨[]⟩ => Nat.beq f g
  | .slice none 0 0, .slice none 0 0 => true
  | _, _ => false
def eqAtoms : List Value → List Value → Bool
  | [], [] => true
  | x :: r, y :: s => eqAtom x y && eqAtoms r s
  | _, _ => false
def eqV : Value → Value → Bool
  | .agg a, .agg b => eqAtoms a.toList b.toList
  | a, b => eqAtom a b

theorem eqAtom_eq {x y : Value} (h : eqAtom x y = true) : x = y := by
  unfold eqAtom at h
  split at h
  · simp only [Bool.and_eq_true] at h
    have h2 := h.2
    rw [@intEq_eq noVars] at h2
    rw [kindIx_inj h.1, eq_of_beq h2]
  · rename_i a b
    cases a <;> cases b <;> simp at h <;> rfl
  · rename_i a b
    rw [show a = b from ByteArray.ext (Array.ext' (eqBytes_eq h))]
  · rfl
  · rw [Nat.eq_of_beq_eq_true h]
  · rfl
  · cases h
theorem eqAtoms_eq : ∀ {l m : List Value}, eqAtoms l m = true → l = m
  | [], [], _ => rfl
  | x :: r, y :: s, h => by
    simp only [eqAtoms, Bool.and_eq_true] at h
    rw [eqAtom_eq h.1, eqAtoms_eq h.2]
  | [], _ :: _, h => by cases h
  | _ :: _, [], h => by cases h
def eqVs : List Value → List Value → Bool
  | [], [] => true
  | x :: r, y :: s => eqV x y && eqVs r s
  | _, _ => false
/-- The same, results of several parts too. -/
def eqV2 : Value → Value → Bool
  | .tuple a, .tuple b => eqVs a.toList b.toList
  | a, b => eqV a b

theorem eqV_eq {x y : Value} (h : eqV x y = true) : x = y := by
  unfold eqV at h
  split at h
  · rw [Array.ext' (eqAtoms_eq h)]
  · exact eqAtom_eq h

/-- The same term. -/
def eqTB : TB → TB → Bool
  | .add, .add => true
  | .sub, .sub => true
  | .mul, .mul => true
  | .quo, .quo => true
  | .rem, .rem => true
  | .mn, .mn => true
  | .mx, .mx => true
  | _, _ => false
theorem eqTB_eq {a b : TB} (h : eqTB a b = true) : a = b := by cases a <;> cases b <;> first | rfl | cases h
def eqT : Tm → Tm → Bool
  | .v i, .v j => Nat.beq i j
  | .lit k a, .lit l b => Nat.beq (kindIx k) (kindIx l) && intEq a b
  | .bin o k x y, .bin p l u v => eqTB o p && Nat.beq (kindIx k) (kindIx l) && eqT x u && eqT y v
  | .neg k x, .neg l y => Nat.beq (kindIx k) (kindIx l) && eqT x y
  | .cv k x, .cv l y => Nat.beq (kindIx k) (kindIx l) && eqT x y
  | .fn i x, .fn j y => Nat.beq i j && eqT x y
  | .nil, .nil => true
  | .cons x r, .cons y s => eqT x y && eqT r s
  | _, _ => false
theorem eqT_eq : ∀ {a b : Tm}, eqT a b = true → a = b := by
  intro a
  induction a with
  | v i => intro b h; cases b <;> simp only [eqT] at h <;> first | (cases h; done) | (rw [Nat.eq_of_beq_eq_true h])
  | lit k n =>
    intro b h
    cases b <;> simp only [eqT, Bool.and_eq_true] at h <;> first | (cases h; done) | skip
    have h2 := h.2
    rw [@intEq_eq noVars] at h2
    rw [kindIx_inj h.1, eq_of_beq h2]
  | bin o k x y ihx ihy =>
    intro b h
    cases b <;> simp only [eqT, Bool.and_eq_true] at h <;> first | (cases h; done) | skip
    rw [eqTB_eq h.1.1.1, kindIx_inj h.1.1.2, ihx h.1.2, ihy h.2]
  | neg k x ih =>
    intro b h
    cases b <;> simp only [eqT, Bool.and_eq_true] at h <;> first | (cases h; done) | skip
    rw [kindIx_inj h.1, ih h.2]
  | cv k x ih =>
    intro b h
    cases b <;> simp only [eqT, Bool.and_eq_true] at h <;> first | (cases h; done) | skip
    rw [kindIx_inj h.1, ih h.2]
  | fn i x ih =>
    intro b h
    cases b <;> simp only [eqT, Bool.and_eq_true] at h <;> first | (cases h; done) | skip
    rw [Nat.eq_of_beq_eq_true h.1, ih h.2]
  | nil => intro b h; cases b <;> simp only [eqT] at h <;> first | (cases h; done) | rfl
  | cons x r ihx ihr =>
    intro b h
    cases b <;> simp only [eqT, Bool.and_eq_true] at h <;> first | (cases h; done) | skip
    rw [ihx h.1, ihr h.2]

theorem eqVs_eq : ∀ {l m : List Value}, eqVs l m = true → l = m
  | [], [], _ => rfl
  | x :: r, y :: s, h => by
    simp only [eqVs, Bool.and_eq_true] at h
    rw [eqV_eq h.1, eqVs_eq h.2]
  | [], _ :: _, h => by cases h
  | _ :: _, [], h => by cases h
theorem eqV2_eq {x y : Value} (h : eqV2 x y = true) : x = y := by
  unfold eqV2 at h
  split at h
  · rw [Array.ext' (eqVs_eq h)]
  · exact eqV_eq h

mutual
/-- The same symbols and numbers, in the same places. -/
def eqC : CV → CV → Bool
  | .sy i, .sy j => eqT i j
  | .agg l, .agg m => eqCL l m
  | .tup l, .tup m => eqCL l m
  | .clo v, .clo u => eqV2 v u
  | _, _ => false
def eqCL : List CV → List CV → Bool
  | [], [] => true
  | x :: r, y :: s => eqC x y && eqCL r s
  | _, _ => false
end

mutual
theorem eqC_eq : ∀ (x y : CV), eqC x y = true → x = y
  | .sy i, y, h => by
    cases y <;> simp only [eqC] at h <;> first | (cases h; done) | skip
    rw [eqT_eq h]
  | .agg l, y, h => by
    cases y <;> simp only [eqC] at h <;> first | (cases h; done) | skip
    rw [eqCL_eq l _ h]
  | .tup l, y, h => by
    cases y <;> simp only [eqC] at h <;> first | (cases h; done) | skip
    rw [eqCL_eq l _ h]
  | .clo v, y, h => by
    cases y <;> simp only [eqC] at h <;> first | (cases h; done) | skip
    rw [eqV2_eq h]
  | .ptr i o, y, h => by cases y <;> simp [eqC] at h
  | .sl i o n c s, y, h => by cases y <;> simp [eqC] at h
  | .fn f a b, y, h => by cases y <;> simp [eqC] at h
theorem eqCL_eq : ∀ (l m : List CV), eqCL l m = true → l = m
  | [], m, h => by cases m <;> simp [eqCL] at h; rfl
  | x :: r, m, h => by
    cases m with
    | nil => simp [eqCL] at h
    | cons y s =>
      simp only [eqCL, Bool.and_eq_true] at h
      rw [eqC_eq x y h.1, eqCL_eq r s h.2]
end

/-- A call whose result is known: the function, the arguments, the result. -/
abbrev KCall := FuncId × List CV × CV
/-- A comparison whose result is known: the type, both sides, whether they are equal. -/
abbrev KEq := TypeId × CV × CV × Bool

def tabC : List KCall → FuncId → List CV → Option CV
  | [], _, _ => none
  | r :: l, f, args => cond (Nat.beq r.1 f && eqCL r.2.1 args) (some r.2.2) (tabC l f args)

theorem tabC_mem : ∀ {l : List KCall} {f : FuncId} {args : List CV} {v : CV}, tabC l f args = some v → (f, args, v) ∈ l
  | [], _, _, _, h => by simp [tabC] at h
  | r :: l, f, args, v, h => by
    rw [tabC, Bool.cond_eq_ite] at h
    split at h
    · rename_i hc
      simp only [Bool.and_eq_true] at hc
      simp at h
      have h1 := Nat.eq_of_beq_eq_true hc.1
      have h2 := eqCL_eq _ _ hc.2
      obtain ⟨f', args', v'⟩ := r
      simp only at h h1 h2
      subst h; subst h1; subst h2
      exact List.mem_cons_self ..
    · exact List.mem_cons_of_mem _ (tabC_mem h)

def isEql : BinOp → Option Bool
  | .eql => some true
  | .neq => some false
  | _ => none

def tabE0 : List KEq → TypeId → CV → CV → Option Bool
  | [], _, _, _ => none
  | r :: l, t, x, y => cond (Nat.beq r.1 t && eqC r.2.1 x && eqC r.2.2.1 y) (some r.2.2.2) (tabE0 l t x y)

def tabE (l : List KEq) (op : BinOp) (t : TypeId) (x y : CV) : Option Bool :=
  match isEql op with
  | none => none
  | some p =>
    match tabE0 l t x y with
    | none => none
    | some b => some (cond p b (!b))

theorem tabE0_mem : ∀ {l : List KEq} {t : TypeId} {x y : CV} {b : Bool}, tabE0 l t x y = some b → (t, x, y, b) ∈ l
  | [], _, _, _, _, h => by simp [tabE0] at h
  | r :: l, t, x, y, b, h => by
    rw [tabE0, Bool.cond_eq_ite] at h
    split at h
    · rename_i hc
      simp only [Bool.and_eq_true] at hc
      simp at h
      have h1 := Nat.eq_of_beq_eq_true hc.1.1
      have h2 := eqC_eq _ _ hc.1.2
      have h3 := eqC_eq _ _ hc.2
      obtain ⟨t', x', y', b'⟩ := r
      simp only at h h1 h2 h3
      subst h; subst h1; subst h2; subst h3
      exact List.mem_cons_self ..
    · exact List.mem_cons_of_mem _ (tabE0_mem h)

/-- An operation whose result is known: which one, the operands, the result. -/
abbrev KOp := OpKey × List CV × CV

def eqKey : OpKey → OpKey → Bool
  | .bin o t, .bin p s => decide (o = p) && Nat.beq t s
  | .un o, .un p => decide (o = p)
  | .conv a b, .conv c d => Nat.beq a c && Nat.beq b d
  | .mn, .mn => true
  | .mx, .mx => true
  | .ln t, .ln s => Nat.beq t s
  | .idx t, .idx s => Nat.beq t s
  | .byt, .byt => true
  | .slc t a b, .slc s c d => Nat.beq t s && cond a c (!c) && cond b d (!d)
  | .ld t, .ld s => Nat.beq t s
  | .ixa t, .ixa s => Nat.beq t s
  | .fda t f, .fda s g => Nat.beq t s && Nat.beq f g
  | _, _ => false

theorem eqKey_eq {a b : OpKey} (h : eqKey a b = true) : a = b := by
  unfold eqKey at h
  split at h
  · simp only [Bool.and_eq_true, decide_eq_true_eq] at h
    rw [h.1, Nat.eq_of_beq_eq_true h.2]
  · simp only [decide_eq_true_eq] at h; rw [h]
  · simp only [Bool.and_eq_true] at h
    rw [Nat.eq_of_beq_eq_true h.1, Nat.eq_of_beq_eq_true h.2]
  · rfl
  · rfl
  · rw [Nat.eq_of_beq_eq_true h]
  · rw [Nat.eq_of_beq_eq_true h]
  · rfl
  · rename_i t a b s c d
    simp only [Bool.and_eq_true] at h
    rw [Nat.eq_of_beq_eq_true h.1.1]
    cases a <;> cases b <;> cases c <;> cases d <;> simp_all
  · rw [Nat.eq_of_beq_eq_true h]
  · rw [Nat.eq_of_beq_eq_true h]
  · simp only [Bool.and_eq_true] at h
    rw [Nat.eq_of_beq_eq_true h.1, Nat.eq_of_beq_eq_true h.2]
  · cases h

def tabV : List KOp → OpKey → List CV → Option CV
  | [], _, _ => none
  | r :: l, k, args => cond (eqKey r.1 k && eqCL r.2.1 args) (some r.2.2) (tabV l k args)

theorem tabV_mem : ∀ {l : List KOp} {k : OpKey} {args : List CV} {v : CV}, tabV l k args = some v → (k, args, v) ∈ l
  | [], _, _, _, h => by simp [tabV] at h
  | r :: l, k, args, v, h => by
    rw [tabV, Bool.cond_eq_ite] at h
    split at h
    · rename_i hc
      simp only [Bool.and_eq_true] at hc
      simp at h
      have h1 := eqKey_eq hc.1
      have h2 := eqCL_eq _ _ hc.2
      obtain ⟨k', args', v'⟩ := r
      simp only at h h1 h2
      subst h; subst h1; subst h2
      exact List.mem_cons_self ..
    · exact List.mem_cons_of_mem _ (tabV_mem h)

/-- What is told, with the worlds in which the calls are told: those that are like a first one below its size. -/
abbrev toldK (pin : Nat) (sym : Tm → Sym) (lc : List KCall) (le : List KEq) (lv : List KOp) (K : World → Prop) (B : Nat) (kst : ∀ w w', K w → Below B w w' → K w') : Ctxt := ⟨pin, sym, tabC lc, tabE le, tabV lv, K, B, kst, .no⟩
abbrev toldW (pin : Nat) (sym : Tm → Sym) (lc : List KCall) (le : List KEq) (lv : List KOp) (w0 : World) : Ctxt :=
  toldK pin sym lc le lv (fun w => Below w0.heap.size w0 w) w0.heap.size fun _ _ h k => h.trans k
abbrev toldP (pin : Nat) (sym : Tm → Sym) (lc : List KCall) (le : List KEq) (lv : List KOp) : Ctxt := toldK pin sym lc le lv (fun _ => True) 0 fun _ _ _ _ => trivial
abbrev toldV (sym : Tm → Sym) (lc : List KCall) (le : List KEq) (lv : List KOp) : Ctxt := toldP 0 sym lc le lv
abbrev told (sym : Tm → Sym) (lc : List KCall) (le : List KEq) : Ctxt := toldV sym lc le []

/-- What a known call must do, in words of values. -/
def CallIs (P : Program) (sym : Tm → Sym) (r : KCall) : Prop :=
  ∃ xs u, @denL (told sym [] []) (fun _ => none) r.2.1 = some xs ∧ @den (told sym [] []) (fun _ => none) r.2.2 = some u ∧
    ∀ w, Calls P r.1 xs.toArray w fun q w' => q = .returned u ∧ Below w.heap.size w w'

/-- What a known call must do in worlds that are like a first one below its size. -/
def CallAt (P : Program) (sym : Tm → Sym) (K : World → Prop) (r : KCall) : Prop :=
  ∃ xs u, @denL (told sym [] []) (fun _ => none) r.2.1 = some xs ∧ @den (told sym [] []) (fun _ => none) r.2.2 = some u ∧
    ∀ w, K w → Calls P r.1 xs.toArray w fun q w' => q = .returned u ∧ Below w.heap.size w w'

theorem CallIs.at {P : Program} {sym : Tm → Sym} {r : KCall} (h : CallIs P sym r) (K : World → Prop) : CallAt P sym K r := by
  obtain ⟨xs, u, h1, h2, h3⟩ := h
  exact ⟨xs, u, h1, h2, fun w _ => h3 w⟩

/-- What a known comparison must do. -/
def EqIs (P : Program) (sym : Tm → Sym) (r : KEq) : Prop :=
  ∃ xv yv, @den (told sym [] []) (fun _ => none) r.2.1 = some xv ∧ @den (told sym [] []) (fun _ => none) r.2.2.1 = some yv ∧
    (∀ w xo yo, (eqGuard .eql r.1 xo yo xv yv).run P w = .ok () w ∧ (eqGuard .neq r.1 xo yo xv yv).run P w = .ok () w) ∧ ∀ w, (binOp .eql r.1 xv yv).run P w = .ok (.bool r.2.2.2) w ∧ (binOp .neq r.1 xv yv).run P w = .ok (.bool (!r.2.2.2)) w

/-- What a known operation must do. -/
def OpIs (P : Program) (sym : Tm → Sym) (r : KOp) : Prop :=
  ∃ xs u, @denL (told sym [] []) (fun _ => none) r.2.1 = some xs ∧ @den (told sym [] []) (fun _ => none) r.2.2 = some u ∧ Tells P r.1 xs u

mutual
theorem den_told {sym : Tm → Sym} {m n : Nat} {a b : List KCall} {c d : List KEq} {p q : List KOp} {K L : World → Prop} {B D : Nat} {hK : ∀ w w', K w → Below B w w' → K w'} {hL : ∀ w w', L w → Below D w w' → L w'} {e : Env} : ∀ (x : CV), @den (toldK m sym a c p K B hK) e x = @den (toldK n sym b d q L D hL) e x
  | .clo v => rfl
  | .ptr i o => rfl
  | .sl i o n k s => rfl
  | .sy i => rfl
  | .yl i => rfl
  | .lp .. => rfl
  | .df => rfl
  | .mp .. => rfl
  | .mo .. => rfl
  | .si .. => rfl
  | .as .. => rfl
  | .ab .. => rfl
  | .pa i k z off => by simp only [den, den_told (n := n) (b := b) (d := d) (q := q) (L := L) (D := D) (hL := hL) k]
  | .fn f l m => by simp only [den, denL_told (n := n) (b := b) (d := d) (q := q) (L := L) (D := D) (hL := hL) l, denL_told (n := n) (b := b) (d := d) (q := q) (L := L) (D := D) (hL := hL) m]
  | .agg l => by simp only [den, denL_told (n := n) (b := b) (d := d) (q := q) (L := L) (D := D) (hL := hL) l]
  | .tup l => by simp only [den, denL_told (n := n) (b := b) (d := d) (q := q) (L := L) (D := D) (hL := hL) l]
theorem denL_told {sym : Tm → Sym} {m n : Nat} {a b : List KCall} {c d : List KEq} {p q : List KOp} {K L : World → Prop} {B D : Nat} {hK : ∀ w w', K w → Below B w w' → K w'} {hL : ∀ w w', L w → Below D w w' → L w'} {e : Env} : ∀ (l : List CV), @denL (toldK m sym a c p K B hK) e l = @denL (toldK n sym b d q L D hL) e l
  | [] => rfl
  | x :: r => by simp only [denL, den_told (n := n) (b := b) (d := d) (q := q) (L := L) (D := D) (hL := hL) x, denL_told (n := n) (b := b) (d := d) (q := q) (L := L) (D := D) (hL := hL) r]
end

/-- **A call that is worked out where the results of some calls, comparisons and operations are told, beside package variables.** -/
theorem calls_toldK {P : Program} (hm : P.follows .mixedOrders = true) (pin : Nat) (sym : Tm → Sym) (lc : List KCall) (le : List KEq) (lv : List KOp) (K : World → Prop) (B : Nat) (kst : ∀ w w', K w → Below B w w' → K w') (hc : ∀ r ∈ lc, CallAt P sym K r) (he : ∀ r ∈ le, EqIs P sym r) (hv : ∀ r ∈ lv, OpIs P sym r)
    {n : Nat} {f : FuncId} {args : List CV} {xs : List Value} (hx : @denL (told sym [] []) (fun _ => none) args = some xs) {v : Value} (g : List (Nat × Blk)) (h : @evalBeside (toldK pin sym lc le lv K B kst) P n f args g = some v) (w : World) (hKw : K w) (hBw : B ≤ w.heap.size)
    (hg : ∀ i b, look g i = some b → i < pin ∧ b.row = none ∧ @RepB (toldK pin sym lc le lv K B kst) (fun i => if i < pin then some (i, 0) else none) b (i, 0) w) :
    Calls P f xs.toArray w fun e w' => e = .returned v ∧ Below w.heap.size w w' := by
  refine @calls_beside P (toldK pin sym lc le lv K B kst) hm ⟨⟨⟨⟨@abOK_no (toldK pin sym lc le lv K B kst) _ rfl, fun k cs v hkv e ys hys => ?_⟩, fun op t x y b hb => ?_⟩, fun f args v hv e ys w hKw hys => ?_⟩, @clOK_no (toldK pin sym lc le lv K B kst) P rfl⟩ n f args xs ?_ v g h w hKw hBw hg
  · have hkv : tabV lv k cs = some v := hkv
    obtain ⟨ys', u, g1, g2, g3⟩ := hv _ (tabV_mem hkv)
    simp only at g1 g2 g3
    have m1 := @denL_mono (told sym [] []) _ e (fun i p h => by cases h) cs ys' g1
    rw [denL_told (n := 0) (b := []) (d := []) (q := []) (L := fun _ => True) (D := 0) (hL := fun _ _ _ _ => trivial)] at hys
    rw [hys] at m1
    cases m1
    refine ⟨u, ?_, g3.in _⟩
    rw [den_told (n := 0) (b := []) (d := []) (q := []) (L := fun _ => True) (D := 0) (hL := fun _ _ _ _ => trivial)]
    exact @den_mono (told sym [] []) _ e (fun i p h => by cases h) v u g2
  · intro e xv yv hxv hyv w xo yo
    have hb : tabE le op t x y = some b := hb
    unfold tabE at hb
    split at hb
    · cases hb
    · rename_i p hp
      split at hb
      · cases hb
      · rename_i b' hb'
        obtain ⟨xv', yv', g1, g2, g3, g4⟩ := he _ (tabE0_mem hb')
        simp only at g1 g2 g3 g4
        have m1 := @den_mono (told sym [] []) _ e (fun i p h => by cases h) x xv' g1
        have m2 := @den_mono (told sym [] []) _ e (fun i p h => by cases h) y yv' g2
        rw [den_told (n := 0) (b := []) (d := []) (q := []) (L := fun _ => True) (D := 0) (hL := fun _ _ _ _ => trivial)] at hxv hyv
        rw [hxv] at m1; rw [hyv] at m2
        cases m1; cases m2
        cases op <;> simp [isEql] at hp <;> subst hp <;> simp at hb <;> subst hb
        · rw [Sem.run_bind, (g3 w xo yo).1, Result.andThen_ok, (g4 w).1]
        · rw [Sem.run_bind, (g3 w xo yo).2, Result.andThen_ok, (g4 w).2, Bool.not_not]
  · obtain ⟨ys', u, g1, g2, g3⟩ := hc _ (tabC_mem hv)
    simp only at g1 g2 g3
    have m1 := @denL_mono (told sym [] []) _ e (fun i p h => by cases h) args ys' g1
    rw [denL_told (n := 0) (b := []) (d := []) (q := []) (L := fun _ => True) (D := 0) (hL := fun _ _ _ _ => trivial)] at hys
    rw [hys] at m1
    cases m1
    refine (g3 w hKw).mono fun q w' ⟨h1, h2⟩ => ⟨⟨u, ?_, h1⟩, h2⟩
    rw [den_told (n := 0) (b := []) (d := []) (q := []) (L := fun _ => True) (D := 0) (hL := fun _ _ _ _ => trivial)]
    exact @den_mono (told sym [] []) _ e (fun i p h => by cases h) v u g2
  · rw [denL_told (n := 0) (b := []) (d := []) (q := []) (L := fun _ => True) (D := 0) (hL := fun _ _ _ _ => trivial)]; exact hx

/-- **The same, where the calls are told for every world.** -/
theorem calls_toldP {P : Program} (hm : P.follows .mixedOrders = true) (pin : Nat) (sym : Tm → Sym) (lc : List KCall) (le : List KEq) (lv : List KOp) (hc : ∀ r ∈ lc, CallIs P sym r) (he : ∀ r ∈ le, EqIs P sym r) (hv : ∀ r ∈ lv, OpIs P sym r)
    {n : Nat} {f : FuncId} {args : List CV} {xs : List Value} (hx : @denL (told sym [] []) (fun _ => none) args = some xs) {v : Value} (g : List (Nat × Blk)) (h : @evalBeside (toldP pin sym lc le lv) P n f args g = some v) (w : World)
    (hg : ∀ i b, look g i = some b → i < pin ∧ b.row = none ∧ @RepB (toldP pin sym lc le lv) (fun i => if i < pin then some (i, 0) else none) b (i, 0) w) :
    Calls P f xs.toArray w fun e w' => e = .returned v ∧ Below w.heap.size w w' :=
  calls_toldK hm pin sym lc le lv (fun _ => True) 0 (fun _ _ _ _ => trivial) (fun r hr => (hc r hr).at _) he hv hx g h w trivial (Nat.zero_le _) hg

/-- **The same, where the calls are told for the worlds that are like this one below its size.** -/
theorem calls_toldW {P : Program} (hm : P.follows .mixedOrders = true) (sym : Tm → Sym) (lc : List KCall) (le : List KEq) (lv : List KOp) (w : World) (hc : ∀ r ∈ lc, CallAt P sym (fun w' => Below w.heap.size w w') r) (he : ∀ r ∈ le, EqIs P sym r) (hv : ∀ r ∈ lv, OpIs P sym r)
    {n : Nat} {f : FuncId} {args : List CV} {xs : List Value} (hx : @denL (told sym [] []) (fun _ => none) args = some xs) {v : Value} (h : @evalBeside (toldW 0 sym lc le lv w) P n f args [] = some v) :
    Calls P f xs.toArray w fun e w' => e = .returned v ∧ Below w.heap.size w w' :=
  calls_toldK hm 0 sym lc le lv _ _ _ hc he hv hx [] h w (Below.refl _ w) (Nat.le_refl _) (fun i b h => by simp [look_nil] at h)

/-- **The same, with no package variable.** -/
theorem calls_toldV {P : Program} (hm : P.follows .mixedOrders = true) (sym : Tm → Sym) (lc : List KCall) (le : List KEq) (lv : List KOp) (hc : ∀ r ∈ lc, CallIs P sym r) (he : ∀ r ∈ le, EqIs P sym r) (hv : ∀ r ∈ lv, OpIs P sym r)
    {n : Nat} {f : FuncId} {args : List CV} {xs : List Value} (hx : @denL (told sym [] []) (fun _ => none) args = some xs) {v : Value} (h : @evalBeside (toldV sym lc le lv) P n f args [] = some v) (w : World) :
    Calls P f xs.toArray w fun e w' => e = .returned v ∧ Below w.heap.size w w' :=
  calls_toldP hm 0 sym lc le lv hc he hv hx [] h w (fun i b h => by simp [look_nil] at h)

/-- **The same, where no operation is told.** -/
theorem calls_told {P : Program} (hm : P.follows .mixedOrders = true) (sym : Tm → Sym) (lc : List KCall) (le : List KEq) (hc : ∀ r ∈ lc, CallIs P sym r) (he : ∀ r ∈ le, EqIs P sym r)
    {n : Nat} {f : FuncId} {args : List CV} {xs : List Value} (hx : @denL (told sym [] []) (fun _ => none) args = some xs) {v : Value} (h : @evalBeside (told sym lc le) P n f args [] = some v) (w : World) :
    Calls P f xs.toArray w fun e w' => e = .returned v ∧ Below w.heap.size w w' :=
  calls_toldV hm sym lc le [] hc he (fun _ h => by cases h) hx h w

end Go.Ev
