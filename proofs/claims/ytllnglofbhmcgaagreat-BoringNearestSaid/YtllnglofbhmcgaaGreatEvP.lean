/- A symbolic evaluation: terms, what is known on a path, and what operations yield on terms. -/
import Derived.Test.YtllnglofbhmcgaaGreatEvO
import Derived.DeepKeys
namespace Go.Ev
open Go.RowKit

/-- The kinds of variables and of functions' results. -/
structure Kinds where
  vk : Nat → IntKind
  fk : Nat → IntKind

/-- What variables, functions and predicates stand for. -/
structure Val (K : Kinds) where
  vv : Nat → Int
  fv : Nat → List Int → Int
  pv : Nat → List Int → Bool
  vr : ∀ i, (K.vk i).wrap (vv i) = vv i
  fr : ∀ i xs, (K.fk i).wrap (fv i xs) = fv i xs

def Tm.kind (K : Kinds) : Tm → IntKind
  | .v i => K.vk i
  | .lit k _ => k
  | .bin _ k _ _ => k
  | .neg k _ => k
  | .cv k _ => k
  | .fn i _ => K.fk i
  | .nil => .i64
  | .cons _ _ => .i64

def binV (o : TB) (k : IntKind) (a b : Int) : Int :=
  match o with
  | .add => k.wrap (a + b)
  | .sub => k.wrap (a - b)
  | .mul => k.wrap (a * b)
  | .quo => k.wrap (a.tdiv b)
  | .rem => a.tmod b
  | .mn => if b < a then b else a
  | .mx => if b > a then b else a

variable {K : Kinds}

mutual
def tv (S : Val K) : Tm → Int
  | .v i => S.vv i
  | .lit _ n => n
  | .bin o k x y => binV o k (tv S x) (tv S y)
  | .neg k x => k.wrap (-(tv S x))
  | .cv k x => k.wrap (tv S x)
  | .fn i x => S.fv i (row S x)
  | .nil => 0
  | .cons _ _ => 0
def row (S : Val K) : Tm → List Int
  | .cons x r => tv S x :: row S r
  | .v _ => []
  | .lit _ _ => []
  | .bin _ _ _ _ => []
  | .neg _ _ => []
  | .cv _ _ => []
  | .fn _ _ => []
  | .nil => []
end

def symOf (S : Val K) (t : Tm) : Sym := ⟨.int (t.kind K) (tv S t), rfl, fun _ h => by cases h⟩

def kEq (a b : IntKind) : Bool := Nat.beq (kindIx a) (kindIx b)
theorem kEq_eq {a b : IntKind} (h : kEq a b = true) : a = b := kindIx_inj h

/-- The term's value is surely one of its kind. -/
def inr (K : Kinds) : Tm → Bool
  | .v _ => true
  | .lit k n => intEq (wrapF k n) n
  | .bin o k x y => match o with
    | .add => true
    | .sub => true
    | .mul => true
    | .quo => true
    | .rem => inr K x && kEq (x.kind K) k && kEq k .i64
    | .mn => inr K x && inr K y && kEq (x.kind K) k && kEq (y.kind K) k
    | .mx => inr K x && inr K y && kEq (x.kind K) k && kEq (y.kind K) k
  | .neg _ _ => true
  | .cv _ _ => true
  | .fn _ _ => true
  | .nil => false
  | .cons _ _ => false

theorem wrap_wrap (k : IntKind) (n : Int) : k.wrap (k.wrap n) = k.wrap n := by
  cases k <;> simp [IntKind.wrap, IntKind.signed, IntKind.bits] <;> (repeat' split) <;> omega

theorem wrap_tmod (x y : Int) (hx : IntKind.i64.wrap x = x) : IntKind.i64.wrap (x.tmod y) = x.tmod y := by
  rw [IntKind.wrap_i64] at hx ⊢
  have h1 : (x.tmod y).natAbs ≤ x.natAbs := by rw [Int.natAbs_tmod]; exact Nat.mod_le _ _
  have h2 : ¬ (x = -9223372036854775808 ∧ x.tmod y = 9223372036854775808) := by
    rintro ⟨h, h'⟩
    have h3 : (-x).tmod y = -(x.tmod y) := Int.neg_tmod x y
    have h4 := Int.tmod_nonneg (a := -x) y (by omega)
    omega
  omega

theorem inr_wrap (S : Val K) : ∀ (t : Tm), inr K t = true → (t.kind K).wrap (tv S t) = tv S t
  | .v i, _ => S.vr i
  | .lit k n, h => by
    simp only [inr] at h
    rw [@intEq_eq noVars, @wrapF_eq noVars] at h
    exact eq_of_beq h
  | .bin o k x y, h => by
    cases o <;> simp only [inr, Bool.and_eq_true] at h <;> simp only [Tm.kind, tv, binV] <;> try exact wrap_wrap _ _
    · obtain ⟨⟨h1, h2⟩, h3⟩ := h
      have h2 := kEq_eq h2
      have h3 := kEq_eq h3
      have := inr_wrap S x h1
      rw [h2, h3] at this
      rw [h3]
      exact wrap_tmod _ _ this
    · obtain ⟨⟨⟨h1, h2⟩, h3⟩, h4⟩ := h
      have e1 := inr_wrap S x h1
      have e2 := inr_wrap S y h2
      rw [kEq_eq h3] at e1; rw [kEq_eq h4] at e2
      split <;> assumption
    · obtain ⟨⟨⟨h1, h2⟩, h3⟩, h4⟩ := h
      have e1 := inr_wrap S x h1
      have e2 := inr_wrap S y h2
      rw [kEq_eq h3] at e1; rw [kEq_eq h4] at e2
      split <;> assumption
  | .neg k x, _ => wrap_wrap _ _
  | .cv k x, _ => wrap_wrap _ _
  | .fn i x, _ => S.fr i _
  | .nil, h => by simp [inr] at h
  | .cons _ _, h => by simp [inr] at h

/-! ### Atoms and what is known -/
inductive Atom
  | lt (x y : Tm)
  | eq (x y : Tm)
  | p (i : Nat) (x : Tm)

def atV (S : Val K) : Atom → Bool
  | .lt x y => decide (tv S x < tv S y)
  | .eq x y => decide (tv S x = tv S y)
  | .p i x => S.pv i (row S x)

abbrev Path := List (Atom × Bool)

def Sat (S : Val K) (π : Path) : Prop := ∀ q ∈ π, atV S q.1 = q.2

def xnor (a b : Bool) : Bool := cond a b (!b)

/-- What one fact says of an atom of the same terms. -/
def same (q : Atom × Bool) (a : Atom) : Option Bool :=
  match a, q with
  | .lt x y, (.lt u v, b) => cond (eqT x u && eqT y v) (some b) (cond (b && eqT x v && eqT y u) (some false) none)
  | .lt x y, (.eq u v, b) => cond (b && ((eqT x u && eqT y v) || (eqT x v && eqT y u))) (some false) none
  | .eq x y, (.eq u v, b) => cond ((eqT x u && eqT y v) || (eqT x v && eqT y u)) (some b) none
  | .eq x y, (.lt u v, b) => cond (b && ((eqT x u && eqT y v) || (eqT x v && eqT y u))) (some false) none
  | .p i x, (.p j y, b) => cond (Nat.beq i j && eqT x y) (some b) none
  | _, _ => none

theorem same_ok {S : Val K} {q : Atom × Bool} {a : Atom} {b : Bool} (hq : atV S q.1 = q.2) (h : same q a = some b) : atV S a = b := by
  unfold same at h
  split at h
  · rename_i x y u v c
    simp only [atV] at hq ⊢
    rw [Bool.cond_eq_ite] at h
    split at h
    · rename_i he
      simp only [Bool.and_eq_true] at he
      simp at h; subst h
      rw [eqT_eq he.1, eqT_eq he.2]; exact hq
    · rw [Bool.cond_eq_ite] at h
      split at h
      · rename_i he
        simp only [Bool.and_eq_true] at he
        obtain ⟨⟨h1, h2⟩, h3⟩ := he
        subst h1
        simp at h; subst h
        rw [eqT_eq h2, eqT_eq h3]
        simp at hq ⊢; omega
      · cases h
  · rename_i x y u v c
    simp only [atV] at hq ⊢
    rw [Bool.cond_eq_ite] at h
    split at h
    · rename_i he
      simp only [Bool.and_eq_true, Bool.or_eq_true] at he
      obtain ⟨h1, h2⟩ := he
      subst h1
      simp at h; subst h
      simp only [decide_eq_true_eq, decide_eq_false_iff_not] at hq ⊢
      rcases h2 with ⟨g1, g2⟩ | ⟨g1, g2⟩ <;> rw [eqT_eq g1, eqT_eq g2] <;> omega
    · cases h
  · rename_i x y u v c
    simp only [atV] at hq ⊢
    rw [Bool.cond_eq_ite] at h
    split at h
    · rename_i he
      simp only [Bool.and_eq_true, Bool.or_eq_true] at he
      simp at h; subst h
      rcases he with ⟨g1, g2⟩ | ⟨g1, g2⟩ <;> rw [eqT_eq g1, eqT_eq g2]
      · exact hq
      · rw [← hq, decide_eq_decide]; exact eq_comm
    · cases h
  · rename_i x y u v c
    simp only [atV] at hq ⊢
    rw [Bool.cond_eq_ite] at h
    split at h
    · rename_i he
      simp only [Bool.and_eq_true, Bool.or_eq_true] at he
      obtain ⟨h1, h2⟩ := he
      subst h1
      simp at h; subst h
      simp only [decide_eq_true_eq, decide_eq_false_iff_not] at hq ⊢
      rcases h2 with ⟨g1, g2⟩ | ⟨g1, g2⟩ <;> rw [eqT_eq g1, eqT_eq g2] <;> omega
    · cases h
  · rename_i i x j y c
    simp only [atV] at hq ⊢
    rw [Bool.cond_eq_ite] at h
    split at h
    · rename_i he
      simp only [Bool.and_eq_true] at he
      simp at h; subst h
      rw [Nat.eq_of_beq_eq_true he.1, eqT_eq he.2]; exact hq
    · cases h
  · cases h

def sameP : Path → Atom → Option Bool
  | [], _ => none
  | q :: r, a => match same q a with
    | some b => some b
    | none => sameP r a

theorem sameP_ok {S : Val K} : ∀ {π : Path} {a : Atom} {b : Bool}, Sat S π → sameP π a = some b → atV S a = b
  | [], _, _, _, h => by simp [sameP] at h
  | q :: r, a, b, hs, h => by
    rw [sameP] at h
    split at h
    · rename_i c hc
      simp at h; subst h
      exact same_ok (hs q (by simp)) hc
    · exact sameP_ok (fun q' hq' => hs q' (by simp [hq'])) h

/-- Bounds of a term: at least, at most. -/
abbrev Bd := Option Int × Option Int
def Bd.has (b : Bd) (n : Int) : Prop := (∀ l, b.1 = some l → l ≤ n) ∧ (∀ u, b.2 = some u → n ≤ u)
def maxO : Option Int → Option Int → Option Int
  | none, b => b
  | some a, none => some a
  | some a, some b => some (cond (intLe a b) b a)
def minO : Option Int → Option Int → Option Int
  | none, b => b
  | some a, none => some a
  | some a, some b => some (cond (intLe a b) a b)
def meet (a b : Bd) : Bd := (maxO a.1 b.1, minO a.2 b.2)

theorem has_meet {a b : Bd} {n : Int} (ha : a.has n) (hb : b.has n) : (meet a b).has n := by
  obtain ⟨a1, a2⟩ := a
  obtain ⟨b1, b2⟩ := b
  refine ⟨fun l hl => ?_, fun u hu => ?_⟩
  · simp only [meet] at hl
    unfold maxO at hl
    split at hl
    · exact hb.1 l hl
    · exact ha.1 l hl
    · rename_i x y
      simp at hl; subst hl
      cases intLe x y
      · exact ha.1 _ rfl
      · exact hb.1 _ rfl
  · simp only [meet] at hu
    unfold minO at hu
    split at hu
    · exact hb.2 u hu
    · exact ha.2 u hu
    · rename_i x y
      simp at hu; subst hu
      cases intLe x y
      · exact hb.2 _ rfl
      · exact ha.2 _ rfl

/-- What one fact says of a term's bounds. -/
def bdOf (q : Atom × Bool) (t : Tm) : Bd :=
  match q with
  | (.lt x (.lit _ m), true) => cond (eqT x t) (none, some (m - 1)) (none, none)
  | (.lt x (.lit _ m), false) => cond (eqT x t) (some m, none) (none, none)
  | (.lt (.lit _ m) x, true) => cond (eqT x t) (some (m + 1), none) (none, none)
  | (.lt (.lit _ m) x, false) => cond (eqT x t) (none, some m) (none, none)
  | (.eq x (.lit _ m), true) => cond (eqT x t) (some m, some m) (none, none)
  | _ => (none, none)

theorem has_none (n : Int) : Bd.has (none, none) n := And.intro (fun _ h => by simp at h) (fun _ h => by simp at h)
theorem has_cond {c : Bool} {b : Bd} {n : Int} (h : c = true → b.has n) : Bd.has (cond c b (none, none)) n := by
  cases c with
  | false => exact has_none n
  | true => exact h rfl

theorem bdOf_ok {S : Val K} {q : Atom × Bool} {t : Tm} (hq : atV S q.1 = q.2) : (bdOf q t).has (tv S t) := by
  unfold bdOf
  split
  · refine has_cond fun he => ?_
    rw [← eqT_eq he]
    have hq := of_decide_eq_true hq
    simp only [tv] at hq
    exact And.intro (fun l hl => by simp at hl) (fun u hu => by simp at hu; omega)
  · refine has_cond fun he => ?_
    rw [← eqT_eq he]
    have hq := of_decide_eq_false hq
    simp only [tv] at hq
    exact And.intro (fun l hl => by simp at hl; omega) (fun u hu => by simp at hu)
  · refine has_cond fun he => ?_
    rw [← eqT_eq he]
    have hq := of_decide_eq_true hq
    simp only [tv] at hq
    exact And.intro (fun l hl => by simp at hl; omega) (fun u hu => by simp at hu)
  · refine has_cond fun he => ?_
    rw [← eqT_eq he]
    have hq := of_decide_eq_false hq
    simp only [tv] at hq
    exact And.intro (fun l hl => by simp at hl) (fun u hu => by simp at hu; omega)
  · refine has_cond fun he => ?_
    rw [← eqT_eq he]
    have hq := of_decide_eq_true hq
    simp only [tv] at hq
    exact And.intro (fun l hl => by simp at hl; omega) (fun u hu => by simp at hu; omega)
  · exact has_none _

def bdP : Path → Tm → Bd
  | [], _ => (none, none)
  | q :: r, t => meet (bdOf q t) (bdP r t)

theorem bdP_ok {S : Val K} {t : Tm} : ∀ {π : Path}, Sat S π → (bdP π t).has (tv S t)
  | [], _ => has_none _
  | q :: r, hs => has_meet (bdOf_ok (hs q (by simp))) (bdP_ok fun q' hq' => hs q' (by simp [hq']))

/-- Bounds of the opposite number, if it is surely one of 64 bits. -/
def negB : Bd → Bd
  | (some l, some u) => cond (intLe (-9223372036854775807) l && intLe u 9223372036854775807) (some (-u), some (-l)) (none, none)
  | _ => (none, none)
theorem negB_ok {b : Bd} {n : Int} (h : b.has n) : (negB b).has (IntKind.i64.wrap (-n)) := by
  unfold negB
  split
  · rename_i l u
    refine has_cond fun hc => ?_
    simp only [Bool.and_eq_true, intLe_eq, decide_eq_true_eq] at hc
    have h1 := h.1 l rfl
    have h2 := h.2 u rfl
    rw [IntKind.wrap_i64]
    exact And.intro (fun l' hl => by simp at hl; omega) (fun u' hu => by simp at hu; omega)
  · exact has_none _

def bdT (π : Path) : Tm → Bd
  | .lit _ n => (some n, some n)
  | .neg .i64 t => meet (bdP π (.neg .i64 t)) (negB (bdP π t))
  | t => bdP π t

theorem bdT_ok {S : Val K} {t : Tm} {π : Path} (hs : Sat S π) : (bdT π t).has (tv S t) := by
  unfold bdT
  split
  · exact ⟨fun l h => by simp at h; subst h; simp [tv], fun u h => by simp at h; subst h; simp [tv]⟩
  · refine has_meet (bdP_ok hs) ?_
    rw [tv]
    exact negB_ok (bdP_ok hs)
  · exact bdP_ok hs

def ltO : Option Int → Option Int → Bool
  | some a, some b => !intLe b a
  | _, _ => false
def leO : Option Int → Option Int → Bool
  | some a, some b => intLe a b
  | _, _ => false
theorem ltO_ok {a b : Bd} {x y : Int} (ha : a.has x) (hb : b.has y) (h : ltO a.2 b.1 = true) : x < y := by
  obtain ⟨a1, a2⟩ := a
  obtain ⟨b1, b2⟩ := b
  unfold ltO at h
  split at h
  · rename_i u l h1 h2
    rw [intLe_eq] at h
    simp at h
    have := ha.2 u h1
    have := hb.1 l h2
    omega
  · cases h
theorem leO_ok {a b : Bd} {x y : Int} (ha : a.has x) (hb : b.has y) (h : leO a.2 b.1 = true) : x ≤ y := by
  obtain ⟨a1, a2⟩ := a
  obtain ⟨b1, b2⟩ := b
  unfold leO at h
  split at h
  · rename_i u l h1 h2
    rw [intLe_eq] at h
    simp at h
    have := ha.2 u h1
    have := hb.1 l h2
    omega
  · cases h

def byBd (a : Atom) (π : Path) : Option Bool :=
  match a with
  | .lt x y => let p := bdT π x; let q := bdT π y; cond (ltO p.2 q.1) (some true) (cond (leO q.2 p.1) (some false) none)
  | .eq x y => let p := bdT π x; let q := bdT π y; cond (ltO p.2 q.1 || ltO q.2 p.1) (some false) (cond (leO p.2 q.1 && leO q.2 p.1) (some true) none)
  | .p _ _ => none

theorem byBd_ok {S : Val K} {π : Path} {a : Atom} {b : Bool} (hs : Sat S π) (h : byBd a π = some b) : atV S a = b := by
  unfold byBd at h
  split at h
  · rename_i x y
    have hx := bdT_ok (t := x) hs
    have hy := bdT_ok (t := y) hs
    simp only [Bool.cond_eq_ite] at h
    split at h
    · rename_i hl
      simp at h; subst h
      simpa [atV] using ltO_ok hx hy hl
    · split at h
      · rename_i hl
        simp at h; subst h
        simpa [atV] using leO_ok hy hx hl
      · cases h
  · rename_i x y
    have hx := bdT_ok (t := x) hs
    have hy := bdT_ok (t := y) hs
    simp only [Bool.cond_eq_ite] at h
    split at h
    · rename_i hl
      simp at h; subst h
      simp only [Bool.or_eq_true] at hl
      simp only [atV, decide_eq_false_iff_not]
      rcases hl with hl | hl
      · have := ltO_ok hx hy hl; omega
      · have := ltO_ok hy hx hl; omega
    · split at h
      · rename_i hl
        simp at h; subst h
        simp only [Bool.and_eq_true] at hl
        have := leO_ok hx hy hl.1
        have := leO_ok hy hx hl.2
        simp only [atV, decide_eq_true_eq]
        omega
      · cases h
  · cases h

def triv (a : Atom) : Option Bool :=
  match a with
  | .lt x y => cond (eqT x y) (some false) none
  | .eq x y => cond (eqT x y) (some true) none
  | .p _ _ => none

theorem triv_ok {S : Val K} {a : Atom} {b : Bool} (h : triv a = some b) : atV S a = b := by
  unfold triv at h
  split at h
  · rw [Bool.cond_eq_ite] at h
    split at h
    · rename_i he
      simp at h; subst h
      simp [atV, eqT_eq he]
    · cases h
  · rw [Bool.cond_eq_ite] at h
    split at h
    · rename_i he
      simp at h; subst h
      simp [atV, eqT_eq he]
    · cases h
  · cases h

/-- What is known of an atom. -/
def known (π : Path) (a : Atom) : Option Bool :=
  match triv a with
  | some b => some b
  | none => match sameP π a with
    | some b => some b
    | none => byBd a π

theorem known_ok {S : Val K} {π : Path} {a : Atom} {b : Bool} (hs : Sat S π) (h : known π a = some b) : atV S a = b := by
  unfold known at h
  split at h
  · rename_i hb
    simp at h; subst h
    exact triv_ok hb
  · split at h
    · rename_i hb
      simp at h; subst h
      exact sameP_ok hs hb
    · exact byBd_ok hs h

end Go.Ev
