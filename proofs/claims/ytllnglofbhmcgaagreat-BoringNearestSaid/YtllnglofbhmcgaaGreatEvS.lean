/- A symbolic evaluation: contracts, what is told on a path, trees of cases. -/
import Derived.Test.YtllnglofbhmcgaaGreatEvR
namespace Go.Ev
open Go.RowKit
variable {K : Kinds} {P : Program}

def asTm : CV → Option Tm
  | .sy t => some t
  | .clo (.int k n) => cond (intEq (wrapF k n) n) (some (.lit k n)) none
  | _ => none

def ansB (b : Option Bool) (neg : Bool) : Option CV := match b with | some b => some (.clo (.bool (cond neg (!b) b))) | none => none
def ansQ (b : Option Bool) (t : Tm) : Option CV := match b with | some false => some (.sy t) | _ => none

def arithT (π : Path) (op : BinOp) (k : IntKind) (x y : Tm) : Option CV :=
  match op with
  | .add => some (.sy (.bin .add k x y))
  | .sub => some (.sy (.bin .sub k x y))
  | .mul => some (.sy (.bin .mul k x y))
  | .quo => ansQ (known π (.eq y (.lit k 0))) (.bin .quo k x y)
  | .rem => ansQ (known π (.eq y (.lit k 0))) (.bin .rem k x y)
  | .lss => ansB (known π (.lt x y)) false
  | .gtr => ansB (known π (.lt y x)) false
  | .leq => ansB (known π (.lt y x)) true
  | .geq => ansB (known π (.lt x y)) true
  | .eql => ansB (known π (.eq x y)) false
  | .neq => ansB (known π (.eq x y)) true
  | _ => none

def binS (K : Kinds) (π : Path) (op : BinOp) (x y : CV) : Option CV :=
  cond (isClo x && isClo y) none
    (match asTm x, asTm y with
    | some a, some b => cond (kEq (a.kind K) (b.kind K)) (arithT π op (a.kind K) a b) none
    | _, _ => none)
def mmS (K : Kinds) (o : TB) (x y : CV) : Option CV :=
  cond (isClo x && isClo y) none
    (match asTm x, asTm y with
    | some a, some b => cond (kEq (a.kind K) (b.kind K)) (some (cond (eqT a b) (.sy a) (.sy (.bin o (a.kind K) a b)))) none
    | _, _ => none)
def convS (P : Program) (K : Kinds) (s d : TypeId) (x : CV) : Option CV :=
  match x with
  | .sy t =>
    match P.underlying s, P.underlying d with
    | some _, some (.int k) => some (.sy (cond (inr K t && kEq (t.kind K) k) t (.cv k t)))
    | _, _ => none
  | _ => none
def negS (K : Kinds) (x : CV) : Option CV := match x with | .sy t => some (.sy (.neg (t.kind K) t)) | _ => none

/-- What an operation yields on terms. -/
def autoV (P : Program) (K : Kinds) (π : Path) : OpKey → List CV → Option CV
  | .bin op _, [x, y] => binS K π op x y
  | .un .neg, [x] => negS K x
  | .conv s d, [x] => convS P K s d x
  | .mn, [x, y] => mmS K .mn x y
  | .mx, [x, y] => mmS K .mx x y
  | .bld t ix, vs => cond (Nat.beq ix.length vs.length) (bldV P t (ix.zip vs)) none
  | .fld t f, [.agg l] => fldV P t f l
  | .idx t, [.agg l, .clo (.int _ n)] => idxV P t l n
  | _, _ => none

/-- The terms of a row of cells of these kinds. -/
def tms (K : Kinds) : List IntKind → List CV → Option (List Tm)
  | [], [] => some []
  | k :: ks, c :: cs =>
    match asTm c with
    | none => none
    | some t => cond (kEq (t.kind K) k && inr K t) (match tms K ks cs with | some r => some (t :: r) | none => none) none
  | _, _ => none
def aggCells : CV → Option (List CV)
  | .agg l => some l
  | .clo (.agg a) => some (a.toList.map .clo)
  | _ => none
def tmsA (K : Kinds) (ks : List IntKind) (x : CV) : Option (List Tm) := match aggCells x with | some l => tms K ks l | none => none

def eqCells (π : Path) : List Tm → List Tm → Option Bool
  | [], [] => some true
  | x :: r, y :: s =>
    match known π (.eq x y) with
    | some true => eqCells π r s
    | some false => some false
    | none => none
  | _, _ => none

abbrev FlatTab := List (TypeId × List IntKind)
def findT : FlatTab → TypeId → Option (List IntKind)
  | [], _ => none
  | r :: l, t => cond (Nat.beq r.1 t) (some r.2) (findT l t)

def autoE (K : Kinds) (eqs : FlatTab) (π : Path) (op : BinOp) (t : TypeId) (x y : CV) : Option Bool :=
  match isEql op with
  | none => none
  | some p =>
    match findT eqs t with
    | none => none
    | some ks =>
      match tmsA K ks x, tmsA K ks y with
      | some xs, some ys => match eqCells π xs ys with | some b => some (cond p b (!b)) | none => none
      | _, _ => none

/-! ### Contracts -/
inductive Sh
  | i (k : IntKind)
  | agg (ks : List IntKind)
inductive RP
  | c (v : Value)
  | i (id : Nat)
  | b (id : Nat)
  | agg (ids : List Nat)
/-- What must be known: a function's value at a run of the arguments; bounds of an argument. -/
inductive Pre
  | fn (id off len : Nat) (k : IntKind) (n : Int)
  | bd (i : Nat) (k : IntKind) (lo hi : Int)
structure Con where
  f : FuncId
  sh : List Sh
  rp : List RP
  pre : List Pre := []

def argsT (K : Kinds) : List Sh → List CV → Option (List Tm)
  | [], [] => some []
  | .i k :: s, a :: r => match tms K [k] [a], argsT K s r with | some x, some y => some (x ++ y) | _, _ => none
  | .agg ks :: s, a :: r => match tmsA K ks a, argsT K s r with | some x, some y => some (x ++ y) | _, _ => none
  | _, _ => none
def rowT : List Tm → Tm
  | [] => .nil
  | x :: r => .cons x (rowT r)
def partR (π : Path) (ρ : Tm) : RP → Option CV
  | .c v => some (.clo v)
  | .i id => some (.sy (.fn id ρ))
  | .b id => match known π (.p id ρ) with | some b => some (.clo (.bool b)) | none => none
  | .agg ids => some (.agg (ids.map fun id => .sy (.fn id ρ)))
def partsR (π : Path) (ρ : Tm) : List RP → Option (List CV)
  | [] => some []
  | p :: r => match partR π ρ p, partsR π ρ r with | some x, some y => some (x :: y) | _, _ => none
def oneTup : List CV → CV
  | [v] => v
  | l => .tup l
def preOK (π : Path) (ts : List Tm) : List Pre → Bool
  | [] => true
  | .fn id off len k n :: r =>
    match known π (.eq (.fn id (rowT ((ts.drop off).take len))) (.lit k n)) with
    | some true => preOK π ts r
    | _ => false
  | .bd i k lo hi :: r =>
    match ts[i]? with
    | none => false
    | some t =>
      match known π (.lt t (.lit k lo)), known π (.lt (.lit k hi) t) with
      | some false, some false => preOK π ts r
      | _, _ => false
def kcF (K : Kinds) (cons : List Con) (π : Path) (f : FuncId) (args : List CV) : Option CV :=
  match cons with
  | [] => none
  | c :: r => cond (Nat.beq c.f f)
      (match argsT K c.sh args with
      | none => none
      | some ts => cond (preOK π ts c.pre) (match partsR π (rowT ts) c.rp with | some l => some (oneTup l) | none => none) (kcF K r π f args))
      (kcF K r π f args)

/-- What is told on a path. -/
@[reducible] def symC (P : Program) (S : Val K) (cons : List Con) (eqs : FlatTab) (Kw : World → Prop) (B : Nat) (kst : ∀ w w', Kw w → Below B w w' → Kw w') (π : Path) : Ctxt :=
  ⟨0, symOf S, kcF K cons π, autoE K eqs π, autoV P K π, Kw, B, kst, .no⟩

/-! ### What contracts must do -/
def InRng : List IntKind → List Int → Prop
  | [], [] => True
  | k :: ks, z :: zs => k.wrap z = z ∧ InRng ks zs
  | _, _ => False
def valK : List IntKind → List Int → List Value
  | k :: ks, z :: zs => .int k z :: valK ks zs
  | _, _ => []
def shK : List Sh → List IntKind
  | [] => []
  | .i k :: s => k :: shK s
  | .agg ks :: s => ks ++ shK s
def shV : List Sh → List Int → List Value
  | [], _ => []
  | .i k :: s, zs => .int k (zs.headD 0) :: shV s (zs.drop 1)
  | .agg ks :: s, zs => .agg (valK ks (zs.take ks.length)).toArray :: shV s (zs.drop ks.length)
def rpV (S : Val K) (zs : List Int) : RP → Value
  | .c v => v
  | .i id => .int (K.fk id) (S.fv id zs)
  | .b id => .bool (S.pv id zs)
  | .agg ids => .agg (ids.map fun id => Value.int (K.fk id) (S.fv id zs)).toArray
def oneV : List Value → Value
  | [v] => v
  | l => .tuple l.toArray
def resV (S : Val K) (zs : List Int) (l : List RP) : Value := oneV (l.map (rpV S zs))

def preV (fv : Nat → List Int → Int) (zs : List Int) : Pre → Prop
  | .fn id off len _ n => fv id ((zs.drop off).take len) = n
  | .bd i _ lo hi => lo ≤ zs.getD i 0 ∧ zs.getD i 0 ≤ hi

def ConOK (P : Program) (S : Val K) (Kw : World → Prop) (c : Con) : Prop :=
  ∀ zs, InRng (shK c.sh) zs → (∀ p ∈ c.pre, preV S.fv zs p) → ∀ w, Kw w → Calls P c.f (shV c.sh zs).toArray w fun q w' => q = .returned (resV S zs c.rp) ∧ Below w.heap.size w w'

/-! ### Soundness -/
section
variable {S : Val K} [C : Ctxt] (hS : Ctxt.sym = symOf S)
include hS

theorem den_sy {e : Env} {t : Tm} {v : Value} (h : den e (.sy t) = some v) : v = .int (t.kind K) (tv S t) := by
  simp only [den, hS, symOf, Option.some.injEq] at h
  exact h.symm
theorem den_sy' (e : Env) (t : Tm) : den e (.sy t) = some (.int (t.kind K) (tv S t)) := by
  simp only [den, hS, symOf]

theorem asTm_den {e : Env} {x : CV} {t : Tm} {v : Value} (h : asTm x = some t) (hd : den e x = some v) : v = .int (t.kind K) (tv S t) := by
  unfold asTm at h
  split at h
  · simp at h; subst h
    exact den_sy hS hd
  · rename_i k n
    rw [Bool.cond_eq_ite] at h
    split at h
    · simp at h; subst h
      rw [den_clo hd]; rfl
    · cases h
  · cases h

theorem tms_den {e : Env} : ∀ {ks : List IntKind} {cs : List CV} {ts : List Tm} {vals : List Value}, tms K ks cs = some ts → denL e cs = some vals → vals = valK ks (ts.map (tv S)) ∧ InRng ks (ts.map (tv S)) ∧ ts.length = ks.length
  | [], [], ts, vals, h, hd => by
    simp [tms] at h; subst h
    simp [denL] at hd; subst hd
    exact ⟨rfl, trivial, rfl⟩
  | k :: ks, c :: cs, ts, vals, h, hd => by
    obtain ⟨x, xs, rfl, h1, h2⟩ := denL_cons hd
    simp only [tms] at h
    split at h
    · cases h
    · rename_i t ht
      rw [Bool.cond_eq_ite] at h
      split at h
      · rename_i hc
        simp only [Bool.and_eq_true] at hc
        split at h
        · rename_i r hr
          simp at h; subst h
          obtain ⟨i1, i2, i3⟩ := tms_den hr h2
          have e1 := asTm_den hS ht h1
          rw [kEq_eq hc.1] at e1
          subst e1
          refine ⟨by rw [List.map_cons, valK, i1], ?_, by simp [i3]⟩
          rw [List.map_cons, InRng]
          exact ⟨by have := inr_wrap S t hc.2; rwa [kEq_eq hc.1] at this, i2⟩
        · cases h
      · cases h
  | [], _ :: _, ts, vals, h, hd => by simp [tms] at h
  | _ :: _, [], ts, vals, h, hd => by simp [tms] at h

theorem tmsA_den {e : Env} {ks : List IntKind} {x : CV} {ts : List Tm} {v : Value} (h : tmsA K ks x = some ts) (hd : den e x = some v) : v = .agg (valK ks (ts.map (tv S))).toArray ∧ InRng ks (ts.map (tv S)) ∧ ts.length = ks.length := by
  unfold tmsA at h
  split at h
  · rename_i l hl
    unfold aggCells at hl
    split at hl
    · simp at hl; subst hl
      simp only [den, Option.map_eq_some_iff] at hd
      obtain ⟨xs, hx, rfl⟩ := hd
      obtain ⟨h1, h2, h3⟩ := tms_den hS h hx
      exact ⟨by rw [← h1], h2, h3⟩
    · rename_i a
      simp at hl; subst hl
      have := den_clo hd; subst this
      obtain ⟨h1, h2, h3⟩ := tms_den hS (e := e) h (denL_clo e a.toList)
      exact ⟨by rw [← h1], h2, h3⟩
    · cases hl
  · cases h
end

theorem wf_of_wrap {k : IntKind} {n : Int} (h : k.wrap n = n) : (Lit.int k n).wf = true := by rw [← h]; exact wf_wrap k n
theorem wrap_of_wf {k : IntKind} {n : Int} (h : (Lit.int k n).wf = true) : k.wrap n = n := by
  cases k <;> simp [Lit.wf, IntKind.wrap, IntKind.min, IntKind.max, IntKind.signed, IntKind.bits] at h ⊢ <;> (try split) <;> omega

theorem valK_V : ∀ {ks : List IntKind} {zs : List Int}, InRng ks zs → valK ks zs = KI.V (ks.zip zs) ∧ (ks.zip zs).map (·.1) = ks ∧ KI.wf (ks.zip zs)
  | [], [], _ => ⟨rfl, rfl, fun _ h => by cases h⟩
  | k :: ks, z :: zs, h => by
    obtain ⟨h1, h2⟩ := h
    obtain ⟨i1, i2, i3⟩ := valK_V h2
    refine ⟨by simp [valK, i1, KI.V], by simp [i2], fun p hp => ?_⟩
    simp only [List.zip_cons_cons, List.mem_cons] at hp
    rcases hp with rfl | hp
    · exact wf_of_wrap h1
    · exact i3 p hp
  | [], _ :: _, h => h.elim
  | _ :: _, [], h => h.elim

theorem zip_inj : ∀ {ks : List IntKind} {xs ys : List Int}, xs.length = ks.length → ys.length = ks.length → (ks.zip xs = ks.zip ys ↔ xs = ys)
  | [], [], [], _, _ => by simp
  | k :: ks, x :: xs, y :: ys, hx, hy => by
    have := zip_inj (ks := ks) (xs := xs) (ys := ys) (by simpa using hx) (by simpa using hy)
    simp [this]
  | [], _ :: _, _, h, _ => by simp at h
  | [], [], _ :: _, _, h => by simp at h
  | _ :: _, [], _, h, _ => by simp at h
  | _ :: _, _ :: _, [], _, h => by simp at h

theorem eqCells_ok {S : Val K} {π : Path} (hs : Sat S π) : ∀ {xs ys : List Tm} {b : Bool}, eqCells π xs ys = some b → decide (xs.map (tv S) = ys.map (tv S)) = b
  | [], [], b, h => by simp [eqCells] at h; subst h; simp
  | x :: r, y :: s, b, h => by
    simp only [eqCells] at h
    split at h
    · rename_i hk
      have := known_ok hs hk
      simp only [atV, decide_eq_true_eq] at this
      have ih := eqCells_ok hs h
      rw [← ih, decide_eq_decide]
      simp [this]
    · rename_i hk
      have := known_ok hs hk
      simp only [atV, decide_eq_false_iff_not] at this
      simp at h; subst h
      simp [this]
    · cases h
  | [], _ :: _, b, h => by simp [eqCells] at h
  | _ :: _, [], b, h => by simp [eqCells] at h

theorem findT_mem : ∀ {l : FlatTab} {t : TypeId} {ks : List IntKind}, findT l t = some ks → (t, ks) ∈ l
  | [], _, _, h => by simp [findT] at h
  | r :: l, t, ks, h => by
    rw [findT, Bool.cond_eq_ite] at h
    split at h
    · rename_i hc
      simp at h
      obtain ⟨t', ks'⟩ := r
      have := Nat.eq_of_beq_eq_true hc
      simp only at h this
      subst h; subst this
      exact List.mem_cons_self ..
    · exact List.mem_cons_of_mem _ (findT_mem h)

def flatTabOK (P : Program) (eqs : FlatTab) : Bool := eqs.all fun r => flatEq P r.1 r.2

theorem autoE_ok {S : Val K} [C : Ctxt] (hS : Ctxt.sym = symOf S) {eqs : FlatTab} (hq : flatTabOK P eqs = true) {π : Path} (hs : Sat S π) {op : BinOp} {t : TypeId} {x y : CV} {b : Bool} (h : autoE K eqs π op t x y = some b) {e : Env} {xv yv : Value} (hx : den e x = some xv) (hy : den e y = some yv) (w : World) (xo yo : Operand) :
    ((do eqGuard op t xo yo xv yv; binOp op t xv yv) : Sem Value).run P w = .ok (.bool b) w := by
  unfold autoE at h
  split at h
  · cases h
  · rename_i p hp
    split at h
    · cases h
    · rename_i ks hk
      have hfe : flatEq P t ks = true := (List.all_eq_true.1 hq) _ (findT_mem hk)
      split at h
      · rename_i xs ys hxs hys
        obtain ⟨x1, x2, x3⟩ := tmsA_den hS hxs hx
        obtain ⟨y1, y2, y3⟩ := tmsA_den hS hys hy
        split at h
        · rename_i c hc
          simp at h; subst h
          have hcell := eqCells_ok hs hc
          subst x1; subst y1
          obtain ⟨a1, a2, a3⟩ := valK_V x2
          obtain ⟨b1, b2, b3⟩ := valK_V y2
          rw [a1, b1]
          have hpp : (op = .eql ∧ p = true) ∨ (op = .neq ∧ p = false) := by
            cases op <;> simp [isEql] at hp <;> subst hp <;> simp
          rw [flatEq_run hfe a2 b2 a3 b3 w xo yo op p hpp]
          have : decide (ks.zip (xs.map (tv S)) = ks.zip (ys.map (tv S))) = c := by
            rw [← hcell, decide_eq_decide]
            exact zip_inj (by simp [x3]) (by simp [y3])
          rw [this]
        · cases h
      · cases h

theorem ansB_ok {b : Option Bool} {neg : Bool} {v : CV} (h : ansB b neg = some v) : ∃ c, b = some c ∧ v = .clo (.bool (cond neg (!c) c)) := by
  unfold ansB at h
  split at h
  · simp at h; exact ⟨_, rfl, h.symm⟩
  · cases h
theorem ansQ_ok {b : Option Bool} {t : Tm} {v : CV} (h : ansQ b t = some v) : b = some false ∧ v = .sy t := by
  unfold ansQ at h
  split at h
  · simp at h; exact ⟨rfl, h.symm⟩
  · cases h

theorem arithT_ok {S : Val K} [C : Ctxt] (hS : Ctxt.sym = symOf S) {π : Path} (hs : Sat S π) {op : BinOp} {k : IntKind} {x y : Tm} {v : CV} (h : arithT π op k x y = some v) (e : Env) (t : TypeId) :
    ∃ u, den e v = some u ∧ Tells P (.bin op t) [.int k (tv S x), .int k (tv S y)] u := by
  unfold arithT at h
  split at h
  · simp at h; subst h; exact ⟨_, den_sy' hS e _, tells_add rfl⟩
  · simp at h; subst h; exact ⟨_, den_sy' hS e _, tells_sub rfl⟩
  · simp at h; subst h; exact ⟨_, den_sy' hS e _, tells_mul rfl⟩
  · obtain ⟨h1, rfl⟩ := ansQ_ok h
    have := known_ok hs h1
    have := of_decide_eq_false this
    exact ⟨_, den_sy' hS e _, tells_quo (by simpa only [tv] using this) rfl⟩
  · obtain ⟨h1, rfl⟩ := ansQ_ok h
    have := known_ok hs h1
    have := of_decide_eq_false this
    exact ⟨_, den_sy' hS e _, tells_rem (by simpa only [tv] using this) rfl⟩
  · obtain ⟨c, h1, rfl⟩ := ansB_ok h
    exact ⟨_, rfl, tells_lss (known_ok hs h1)⟩
  · obtain ⟨c, h1, rfl⟩ := ansB_ok h
    exact ⟨_, rfl, tells_gtr (known_ok hs h1)⟩
  · obtain ⟨c, h1, rfl⟩ := ansB_ok h
    have h2 := known_ok hs h1
    simp only [atV] at h2
    refine ⟨_, rfl, tells_leq ?_⟩
    rw [← h2, cond_true, ← decide_not, decide_eq_decide]; omega
  · obtain ⟨c, h1, rfl⟩ := ansB_ok h
    have h2 := known_ok hs h1
    simp only [atV] at h2
    refine ⟨_, rfl, tells_geq ?_⟩
    rw [← h2, cond_true, ← decide_not, decide_eq_decide]; omega
  · obtain ⟨c, h1, rfl⟩ := ansB_ok h
    exact ⟨_, rfl, tells_eql (known_ok hs h1)⟩
  · obtain ⟨c, h1, rfl⟩ := ansB_ok h
    have h2 := known_ok hs h1
    simp only [atV] at h2
    refine ⟨_, rfl, tells_neq ?_⟩
    rw [← h2, cond_true, ← decide_not]
  · cases h

end Go.Ev
