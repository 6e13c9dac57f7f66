/- A piece of code worked out where the results of some calls and operations are told: from what a frame and some blocks hold before it to what they hold behind it. -/
import Derived.Test.YtllnglofbhmcgaaGreatEvO
import Derived.ControlIn
import Derived.Laws.Shifts
import Derived.Laws.Bits64b
namespace Go.Ev
open Go.RowKit

/-- Where the first names lie. -/
def plE (pl : List Nat) : Env := fun i => (pl[i]?).map fun p => (p, 0)
/-- The temporaries of which nothing is known. -/
def garb (u : Nat → Value) : Nat → List (Nat × CV)
  | 0 => []
  | k + 1 => (k, .clo (u k)) :: garb u k
def frOf (n : Nat) (tl : List (Nat × CV)) (u : Nat → Value) : Fr := ⟨n, tl ++ garb u n, []⟩
def memOf : Nat → List Blk → List (Nat × Blk)
  | _, [] => []
  | i, b :: r => (i, b) :: memOf (i + 1) r

theorem lookF_app (i : Nat) : ∀ (l m : List (Nat × CV)), (∃ x ∈ l, x.1 = i ∧ lookF (l ++ m) i = x.2) ∨ lookF (l ++ m) i = lookF m i
  | [], m => .inr rfl
  | x :: r, m => by
    rw [List.cons_append, @lookF_cons noVars]
    by_cases h : x.1 = i
    · rw [if_pos h]; exact .inl ⟨x, List.mem_cons_self, h, rfl⟩
    · rw [if_neg h]
      rcases lookF_app i r m with ⟨y, h1, h2, h3⟩ | h1
      · exact .inl ⟨y, List.mem_cons_of_mem _ h1, h2, h3⟩
      · exact .inr h1
theorem lookF_garb (u : Nat → Value) (i : Nat) : ∀ n, lookF (garb u n) i = if i < n then .clo (u i) else .clo undef
  | 0 => rfl
  | n + 1 => by
    rw [garb, @lookF_cons noVars, lookF_garb u i n]
    by_cases h : n = i
    · subst h; simp
    · rw [if_neg h]
      by_cases h2 : i < n
      · rw [if_pos h2, if_pos (by omega)]
      · rw [if_neg h2, if_neg (by omega)]
theorem look_memOf (j : Nat) : ∀ (bl : List Blk) (i : Nat), look (memOf i bl) j = if i ≤ j then bl[j - i]? else none
  | [], i => by simp [memOf, look_nil]
  | b :: r, i => by
    rw [memOf, look_cons, look_memOf j r (i + 1)]
    rcases beq_cases i j with ⟨h, e⟩ | ⟨h, e⟩
    · rw [h, cond_true, if_pos (by omega), show j - i = 0 by omega]; rfl
    · rw [h, cond_false]
      by_cases h2 : i ≤ j
      · rw [if_pos h2, if_pos (by omega), show j - i = (j - (i + 1)) + 1 by omega]; rfl
      · rw [if_neg h2, if_neg (by omega)]

/-- The same, pointers too. -/
def eqP : CV → CV → Bool
  | .ptr i o, y => match y with | .ptr j p => Nat.beq i j && Nat.beq o p | _ => false
  | x, y => eqC x y
theorem eqP_eq {x y : CV} (h : eqP x y = true) : x = y := by
  cases x with
  | ptr i o =>
    cases y <;> simp only [eqP] at h <;> first | (cases h; done) | skip
    simp only [Bool.and_eq_true] at h
    rw [Nat.eq_of_beq_eq_true h.1, Nat.eq_of_beq_eq_true h.2]
  | _ => exact eqC_eq _ _ h
def eqPL : List CV → List CV → Bool
  | [], [] => true
  | x :: r, y :: s => eqP x y && eqPL r s
  | _, _ => false
theorem eqPL_eq : ∀ {l m : List CV}, eqPL l m = true → l = m
  | [], [], _ => rfl
  | x :: r, y :: s, h => by
    simp only [eqPL, Bool.and_eq_true] at h
    rw [eqP_eq h.1, eqPL_eq h.2]
  | [], _ :: _, h => by cases h
  | _ :: _, [], h => by cases h
def eqEx : Ex → Ex → Bool
  | .normal, .normal => true
  | .exit i, .exit j => Nat.beq i j
  | .ret, .ret => true
  | _, _ => false
theorem eqEx_eq {a b : Ex} (h : eqEx a b = true) : a = b := by
  cases a <;> cases b <;> simp only [eqEx] at h <;> first | rfl | (cases h; done) | rw [Nat.eq_of_beq_eq_true h]
def isNone' : Option Nat → Bool
  | none => true
  | _ => false
/-- The block is known whole, as it is wanted. -/
def blkIs (b : Blk) (c : Option Blk) : Bool := match c with | some c => isNone' c.row && Nat.beq c.ty b.ty && eqPL c.cs b.cs | none => false
theorem blkIs_eq {b : Blk} {c : Option Blk} (h : blkIs b c = true) : c = some ⟨b.cs, b.ty, none⟩ := by
  unfold blkIs at h
  split at h
  · rename_i c
    obtain ⟨cs, ty, row⟩ := c
    simp only [Bool.and_eq_true] at h
    have h1 : row = none := by cases row with | none => rfl | some z => cases h.1.1
    have h2 : ty = b.ty := Nat.eq_of_beq_eq_true h.1.2
    have h3 := eqPL_eq h.2
    rw [h1, h2, h3]
  · cases h
noncomputable def wantT (T : Fr) : List (Nat × CV) → Bool
  | [] => true
  | x :: r => eqP (T.get x.1) x.2 && wantT T r
theorem wantT_spec {T : Fr} : ∀ {l : List (Nat × CV)}, wantT T l = true → ∀ x ∈ l, T.get x.1 = x.2
  | [], _, x, hx => by cases hx
  | y :: r, h, x, hx => by
    simp only [wantT, Bool.and_eq_true] at h
    rcases List.mem_cons.1 hx with rfl | hx
    · exact eqP_eq h.1
    · exact wantT_spec h.2 x hx
noncomputable def wantM (M : Mem) : List (Nat × Blk) → Bool
  | [] => true
  | x :: r => blkIs x.2 (M.at x.1) && wantM M r
theorem wantM_spec {M : Mem} : ∀ {l : List (Nat × Blk)}, wantM M l = true → ∀ x ∈ l, M.at x.1 = some ⟨x.2.cs, x.2.ty, none⟩
  | [], _, x, hx => by cases hx
  | y :: r, h, x, hx => by
    simp only [wantM, Bool.and_eq_true] at h
    rcases List.mem_cons.1 hx with rfl | hx
    · exact blkIs_eq h.1
    · exact wantM_spec h.2 x hx
def isNil : List Nat → Bool
  | [] => true
  | _ => false

/-- The piece of code, worked out from a frame and blocks of which this is known, ends so, and leaves this. -/
noncomputable def checkC [Ctxt] (P : Program) (fuel : Nat) (c : Code) (n : Nat) (tl : List (Nat × CV)) (u : Nat → Value) (bl : List Blk) (ex : Ex) (want : List (Nat × CV)) (wantB : List (Nat × Blk)) : Bool :=
  match evalC P fuel true 0 c (frOf n tl u) ⟨bl.length, memOf 0 bl⟩ with
  | some (ex', T', M') => eqEx ex' ex && wantT T' want && wantM M' wantB && isNil T'.ms && Nat.beq T'.n n
  | none => false

/-- What is known of a frame and of blocks at these places. -/
structure StAt [Ctxt] (n : Nat) (tl : List (Nat × CV)) (bl : List (Nat × Blk)) (pl : List Nat) (a : Act) (w : World) : Prop where
  size : a.tmps.size = n
  defers : a.defers = []
  tmps : ∀ x ∈ tl, den (plE pl) x.2 = some (a.tmps.getD x.1 undef)
  blks : ∀ x ∈ bl, ∃ p vs, pl[x.1]? = some p ∧ w.heap[p]? = some (.cells vs.toArray x.2.ty (0, 0)) ∧ denL (plE pl) x.2.cs = some vs

theorem known_told {P : Program} (sym : Tm → Sym) (lc : List KCall) (lv : List KOp) (hc : ∀ r ∈ lc, CallIs P sym r) (hv : ∀ r ∈ lv, OpIs P sym r) : @KnownOK (toldV sym lc [] lv) P := by
  refine ⟨⟨⟨⟨@abOK_no (toldV sym lc [] lv) _ rfl, fun k cs v hkv e ys hys => ?_⟩, fun op t x y b hb => ?_⟩, fun f args v hv e ys w hKw hys => ?_⟩, @clOK_no (toldV sym lc [] lv) P rfl⟩
  · have hkv : tabV lv k cs = some v := hkv
    obtain ⟨ys', u, g1, g2, g3⟩ := hv _ (tabV_mem hkv)
    simp only at g1 g2 g3
    have m1 := @denL_mono (told sym [] []) _ e (fun i p h => by cases h) cs ys' g1
    rw [denL_told (n := 0) (b := []) (d := []) (q := []) (L := fun _ => True) (D := 0) (hL := fun _ _ _ _ => trivial)] at hys
    rw [hys] at m1
    cases m1
    refine ⟨u, ?_, g3.in _⟩
    rw [den_told (n := 0) (b := []) (d := []) (q := []) (L := fun _ => True) (D := 0) (hL := fun _ _ _ _ => trivial)]
    exact @den_mono (told sym [] []) _ e (fun i p h => by cases h) v u g2
  · intro e xv yv hxv hyv w xo yo
    have hb : tabE [] op t x y = some b := hb
    unfold tabE at hb
    split at hb
    · cases hb
    · cases hb
  · obtain ⟨ys', u, g1, g2, g3⟩ := hc _ (tabC_mem hv)
    simp only at g1 g2 g3
    have m1 := @denL_mono (told sym [] []) _ e (fun i p h => by cases h) args ys' g1
    rw [denL_told (n := 0) (b := []) (d := []) (q := []) (L := fun _ => True) (D := 0) (hL := fun _ _ _ _ => trivial)] at hys
    rw [hys] at m1
    cases m1
    refine (g3 w).mono fun q w' ⟨h1, h2⟩ => ⟨⟨u, ?_, h1⟩, h2⟩
    rw [den_told (n := 0) (b := []) (d := []) (q := []) (L := fun _ => True) (D := 0) (hL := fun _ _ _ _ => trivial)]
    exact @den_mono (told sym [] []) _ e (fun i p h => by cases h) v u g2

/-- What a piece of code may have changed. -/
structure Near (pl : List Nat) (w w' : World) : Prop where
  os : w'.os = w.os
  tape : w'.tape = w.tape
  output : w'.output = w.output
  size : w.heap.size ≤ w'.heap.size
  block : ∀ b, b < w.heap.size → b ∉ pl → w'.heap[b]? = w.heap[b]?
theorem Near.below {pl : List Nat} {w0 w w' : World} (h : Near pl w w') (hb : Below w0.heap.size w0 w) (hp : ∀ p ∈ pl, w0.heap.size ≤ p) : Below w0.heap.size w0 w' :=
  ⟨h.os.trans hb.os, h.tape.trans hb.tape, h.output.trans hb.output, Nat.le_trans hb.size h.size, fun k hk => (h.block k (by have := hb.size; omega) (fun hm => by have := hp k hm; omega)).trans (hb.block k hk)⟩

/-- **A piece of code, worked out**: what is known of the frame and the blocks behind it. -/
theorem code_told {P : Program} (hm : P.follows .mixedOrders = true) (sym : Tm → Sym) (lc : List KCall) (lv : List KOp) (hc : ∀ r ∈ lc, CallIs P sym r) (hv : ∀ r ∈ lv, OpIs P sym r)
    (fuel : Nat) {c : Code} {n : Nat} (tl : List (Nat × CV)) (bl : List Blk) (ex : Ex) (want : List (Nat × CV)) (wantB : List (Nat × Blk)) {a : Act} {w : World} {pl : List Nat}
    (h : ∀ u, @checkC (toldV sym lc [] lv) P fuel c n tl u bl ex want wantB = true)
    (hrow : ∀ b ∈ bl, b.row = none) (hnd : pl.Nodup) (hl : pl.length = bl.length) (hs : @StAt (toldV sym lc [] lv) n tl (memOf 0 bl) pl a w)
    {Q : Exit → Act → World → Prop} (hQ : ∀ a' w', a'.tmps.size = n → a'.defers = [] → (∀ x ∈ want, ∀ v, @den (toldV sym lc [] lv) (plE pl) x.2 = some v → a'.tmps.getD x.1 undef = v) →
      (∀ x ∈ wantB, ∀ p vs, pl[x.1]? = some p → @denL (toldV sym lc [] lv) (plE pl) x.2.cs = some vs → w'.heap[p]? = some (.cells vs.toArray x.2.ty (0, 0))) → Near pl w w' → Q ex.to a' w') : c.wp P Q a w := by
  letI : Ctxt := toldV sym lc [] lv
  have hk : KnownOK P := known_told sym lc lv hc hv
  have h := h fun i => a.tmps.getD i undef
  unfold checkC at h
  split at h
  · rename_i ex' T' M' hev
    simp only [Bool.and_eq_true] at h
    obtain ⟨⟨⟨⟨h1, h2⟩, h3⟩, h4⟩, h5⟩ := h
    have hex := eqEx_eq h1
    subst hex
    obtain ⟨hnx, hok⟩ := evalC_ok hm hk fuel true 0 c _ _ _ _ _ hev
    have hT : DT (plE pl) (frOf n tl fun i => a.tmps.getD i undef) a := by
      refine ⟨hs.size.symm, fun i => ?_⟩
      show den _ (lookF (tl ++ garb _ n) i) = _
      rcases lookF_app i tl (garb (fun i => a.tmps.getD i undef) n) with ⟨x, g1, g2, g3⟩ | g
      · rw [g3, hs.tmps x g1, g2]
      · rw [g, lookF_garb]
        split
        · rfl
        · rename_i hi
          have : a.tmps.getD i undef = undef := by
            rw [Array.getD_eq_getD_getElem?, Array.getElem?_eq_none (by rw [hs.size]; omega)]; rfl
          rw [this]; rfl
    have hat : ∀ i, (⟨bl.length, memOf 0 bl⟩ : Mem).at i = bl[i]? := fun i => by
      show look (memOf 0 bl) i = _
      rw [look_memOf, if_pos (Nat.zero_le _)]; rfl
    have hmem : ∀ i b, bl[i]? = some b → (i, b) ∈ memOf 0 bl := by
      have : ∀ (l : List Blk) (k i : Nat) (b : Blk), l[i]? = some b → (k + i, b) ∈ memOf k l := by
        intro l
        induction l with
        | nil => intro k i b h; simp at h
        | cons c r ih =>
          intro k i b h
          cases i with
          | zero => simp at h; subst h; exact List.mem_cons_self
          | succ i =>
            rw [show k + (i + 1) = (k + 1) + i by omega]
            exact List.mem_cons_of_mem _ (ih (k + 1) i b (by simpa using h))
      intro i b h
      have := this bl 0 i b h
      rwa [Nat.zero_add] at this
    have hR : Rep (plE pl) ⟨bl.length, memOf 0 bl⟩ w := by
      refine ⟨fun i b hb => ?_, fun i b hb => ?_, fun i j b c p q hb hc' hp hq hpq => ?_, fun i p hi => absurd hi (Nat.not_lt_zero i), Nat.zero_le _, ⟨trivial, Nat.zero_le _, fun i p _ _ => Nat.zero_le _⟩⟩
      · rw [hat] at hb
        exact (List.getElem?_eq_some_iff.1 hb).1
      · rw [hat] at hb
        obtain ⟨p, vs, g1, g2, g3⟩ := hs.blks _ (hmem i b hb)
        have hr : b.row = none := hrow b (List.mem_of_getElem? hb)
        refine ⟨(p, 0), by simp [plE, g1], RepB.of vs.toArray vs g2 g3 (by simp) ?_⟩
        rw [hr]; simp
      · simp only [plE, Option.map_eq_some_iff] at hp hq
        obtain ⟨p', hp', rfl⟩ := hp
        obtain ⟨q', hq', rfl⟩ := hq
        simp only at hpq
        subst hpq
        have hh := List.pairwise_iff_getElem.1 hnd
        obtain ⟨hi, hpi⟩ := List.getElem?_eq_some_iff.1 hp'
        obtain ⟨hj, hqj⟩ := List.getElem?_eq_some_iff.1 hq'
        refine Classical.byContradiction fun hij => ?_
        rcases Nat.lt_or_gt_of_ne hij with hlt | hlt
        · exact hh i j hi hj hlt (hpi.trans hqj.symm)
        · exact hh j i hj hi hlt (hqj.trans hpi.symm)
    refine (wpIn_wide (n := 0)).1 (hok none 0 (fun _ => rfl) (plE pl) a w hT (show DFs _ [] _ from hs.defers) hR ⟨Nat.zero_le _, Nat.zero_le _⟩ (fun i hi _ => ?_) Q fun e' a' w' hT' hd' hp' => ?_)
    · simp only [plE, Option.map_eq_none_iff]
      exact List.getElem?_eq_none (by rw [hl]; exact hi)
    · have hms : T'.ms = [] := by
        cases hms : T'.ms with
        | nil => rfl
        | cons x r => rw [hms] at h4; cases h4
      refine hQ a' w' ?_ ?_ (fun x hx v hv => ?_) (fun x hx p vs hp hvs => ?_) ⟨hp'.os, hp'.tape, hp'.output, hp'.size, fun b hb hn => hp'.kept b hb fun i c p hc' hp hpb => ?_⟩
      · rw [← hT'.n, Nat.eq_of_beq_eq_true h5]
      · have := hd'
        unfold DF at this
        rw [hms] at this
        exact this
      · have g := hT'.get x.1
        rw [wantT_spec h2 x hx, den_mono hp'.le _ _ hv] at g
        exact (Option.some.inj g).symm
      · have hat' := wantM_spec h3 x hx
        obtain ⟨q, hq, hB⟩ := hp'.rep.blk _ _ hat'
        have hq0 : e' x.1 = some (p, 0) := hp'.le x.1 (p, 0) (by simp [plE, hp])
        rw [hq0] at hq; cases hq
        obtain ⟨c, us, fz, g1, g2, g3, g4, g5⟩ := hB.ofRow (by simp)
        rw [denL_mono hp'.le _ _ hvs] at g2
        cases g2
        have gz : fz = (0, 0) := g4.resolve_left fun h => by cases h
        have g5 : c.size = vs.length := g5
        have e1 : c.toList = vs := by rw [← g3, List.take_of_length_le (by simp; omega)]
        rw [g1, gz, ← e1]
      · rw [hat] at hc'
        simp only [plE, Option.map_eq_some_iff] at hp
        obtain ⟨p', hp', rfl⟩ := hp
        exact hn (hpb ▸ List.mem_of_getElem? hp')
  · cases h

/-! ### In plain values -/
def denT [Ctxt] (E : Env) : List (Nat × CV) → Option (List (Nat × Value))
  | [] => some []
  | x :: r => (den E x.2).bind fun v => (denT E r).map ((x.1, v) :: ·)
def denB [Ctxt] (pl : List Nat) : List (Nat × Blk) → Option (List (Nat × TypeId × List Value))
  | [] => some []
  | x :: r => (pl[x.1]?).bind fun p => (denL (plE pl) x.2.cs).bind fun vs => (denB pl r).map ((p, x.2.ty, vs) :: ·)
/-- What is known of a frame and of blocks. -/
structure Fs (n : Nat) (tv : List (Nat × Value)) (bv : List (Nat × TypeId × List Value)) (a : Act) (w : World) : Prop where
  size : a.tmps.size = n
  defers : a.defers = []
  tmps : ∀ x ∈ tv, a.tmps.getD x.1 undef = x.2
  blks : ∀ x ∈ bv, w.heap[x.1]? = some (.cells x.2.2.toArray x.2.1 (0, 0))

theorem denT_spec [Ctxt] {E : Env} : ∀ {l : List (Nat × CV)} {tv : List (Nat × Value)}, denT E l = some tv → (∀ x ∈ l, ∃ v, den E x.2 = some v ∧ (x.1, v) ∈ tv) ∧ (∀ y ∈ tv, ∃ x ∈ l, x.1 = y.1 ∧ den E x.2 = some y.2)
  | [], tv, h => by
    simp [denT] at h; subst h
    exact ⟨(fun x hx => by cases hx), (fun x hx => by cases hx)⟩
  | x :: r, tv, h => by
    simp only [denT, Option.bind_eq_some_iff, Option.map_eq_some_iff] at h
    obtain ⟨v, hv, us, hus, rfl⟩ := h
    obtain ⟨i1, i2⟩ := denT_spec hus
    refine ⟨fun y hy => ?_, fun y hy => ?_⟩
    · rcases List.mem_cons.1 hy with rfl | hy
      · exact ⟨v, hv, List.mem_cons_self⟩
      · obtain ⟨u, h1, h2⟩ := i1 y hy
        exact ⟨u, h1, List.mem_cons_of_mem _ h2⟩
    · rcases List.mem_cons.1 hy with rfl | hy
      · exact ⟨x, List.mem_cons_self, rfl, hv⟩
      · obtain ⟨u, h1, h2⟩ := i2 y hy
        exact ⟨u, List.mem_cons_of_mem _ h1, h2⟩
theorem denB_spec [Ctxt] {pl : List Nat} : ∀ {l : List (Nat × Blk)} {bv : List (Nat × TypeId × List Value)}, denB pl l = some bv →
    (∀ x ∈ l, ∃ p vs, pl[x.1]? = some p ∧ denL (plE pl) x.2.cs = some vs ∧ (p, x.2.ty, vs) ∈ bv) ∧ (∀ y ∈ bv, ∃ x ∈ l, pl[x.1]? = some y.1 ∧ x.2.ty = y.2.1 ∧ denL (plE pl) x.2.cs = some y.2.2)
  | [], bv, h => by
    simp [denB] at h; subst h
    exact ⟨(fun x hx => by cases hx), (fun x hx => by cases hx)⟩
  | x :: r, bv, h => by
    simp only [denB, Option.bind_eq_some_iff, Option.map_eq_some_iff] at h
    obtain ⟨p, hp, vs, hvs, us, hus, rfl⟩ := h
    obtain ⟨i1, i2⟩ := denB_spec hus
    refine ⟨fun y hy => ?_, fun y hy => ?_⟩
    · rcases List.mem_cons.1 hy with rfl | hy
      · exact ⟨p, vs, hp, hvs, List.mem_cons_self⟩
      · obtain ⟨u, z, h1, h2, h3⟩ := i1 y hy
        exact ⟨u, z, h1, h2, List.mem_cons_of_mem _ h3⟩
    · rcases List.mem_cons.1 hy with rfl | hy
      · exact ⟨x, List.mem_cons_self, hp, rfl, hvs⟩
      · obtain ⟨u, h1, h2⟩ := i2 y hy
        exact ⟨u, List.mem_cons_of_mem _ h1, h2⟩

/-- **A piece of code, worked out**, from and to plain values. -/
theorem code_fs {P : Program} (hm : P.follows .mixedOrders = true) (sym : Tm → Sym) (lc : List KCall) (lv : List KOp) (hc : ∀ r ∈ lc, CallIs P sym r) (hv : ∀ r ∈ lv, OpIs P sym r)
    (fuel : Nat) {c : Code} {n : Nat} (tl : List (Nat × CV)) (bl : List Blk) (ex : Ex) (want : List (Nat × CV)) (wantB : List (Nat × Blk)) {a : Act} {w : World} (pl : List Nat)
    (h : ∀ u, @checkC (toldV sym lc [] lv) P fuel c n tl u bl ex want wantB = true)
    (hrow : ∀ b ∈ bl, b.row = none) (hnd : pl.Nodup) (hl : pl.length = bl.length)
    {tv tv' : List (Nat × Value)} {bv bv' : List (Nat × TypeId × List Value)} (ht : @denT (toldV sym lc [] lv) (plE pl) tl = some tv) (hb : @denB (toldV sym lc [] lv) pl (memOf 0 bl) = some bv)
    (ht' : @denT (toldV sym lc [] lv) (plE pl) want = some tv') (hb' : @denB (toldV sym lc [] lv) pl wantB = some bv') (hs : Fs n tv bv a w)
    {Q : Exit → Act → World → Prop} (hQ : ∀ a' w', Fs n tv' bv' a' w' → Near pl w w' → Q ex.to a' w') : c.wp P Q a w := by
  letI : Ctxt := toldV sym lc [] lv
  refine code_told hm sym lc lv hc hv fuel tl bl ex want wantB h hrow hnd hl ⟨hs.size, hs.defers, fun x hx => ?_, fun x hx => ?_⟩ fun a' w' h1 h2 h3 h4 h5 => hQ a' w' ⟨h1, h2, fun y hy => ?_, fun y hy => ?_⟩ h5
  · obtain ⟨v, g1, g2⟩ := (denT_spec ht).1 x hx
    rw [g1, hs.tmps _ g2]
  · obtain ⟨p, vs, g1, g2, g3⟩ := (denB_spec hb).1 x hx
    exact ⟨p, vs, g1, hs.blks _ g3, g2⟩
  · obtain ⟨x, g1, g2, g3⟩ := (denT_spec ht').2 y hy
    rw [← g2]; exact h3 x g1 _ g3
  · obtain ⟨x, g1, g2, g3, g4⟩ := (denB_spec hb').2 y hy
    rw [← g3]; exact h4 x g1 _ _ g2 g4

/-- **A call, worked out**: its result may hold symbols. -/
def resIs (want : CV) : Option (CV × Mem) → Bool
  | some (c, _) => eqC c want
  | none => false
theorem calls_toldS {P : Program} (hm : P.follows .mixedOrders = true) (sym : Tm → Sym) (lc : List KCall) (lv : List KOp) (hc : ∀ r ∈ lc, CallIs P sym r) (hv : ∀ r ∈ lv, OpIs P sym r)
    {n : Nat} {f : FuncId} {args : List CV} {xs : List Value} (hx : @denL (toldV sym lc [] lv) (fun _ => none) args = some xs) (want : CV) {u : Value}
    (h : resIs want (evalFn0 P (@evalC (toldV sym lc [] lv) P n true) 0 f args ⟨0, []⟩) = true) (hu : @den (toldV sym lc [] lv) (fun _ => none) want = some u) (w : World) :
    Calls P f xs.toArray w fun e w' => e = .returned u ∧ Below w.heap.size w w' := by
  letI : Ctxt := toldV sym lc [] lv
  have hk : KnownOK P := known_told sym lc lv hc hv
  unfold resIs at h
  split at h
  · rename_i c M' hev
    have := eqC_eq _ _ h
    subst this
    obtain ⟨hn1, hc1⟩ := evalFn0_ok (evalC_ok hm hk n true)
    refine hc1 0 f _ _ _ _ hev (fun _ => none) w xs hx ⟨fun i b h => by simp [Mem.at, look_nil] at h, fun i b h => by simp [Mem.at, look_nil] at h, fun i j b c p q hb => by simp [Mem.at, look_nil] at hb, fun i p hi => by simp, Nat.le_refl _, ⟨trivial, Nat.zero_le _, fun i p hi hp => by cases hp⟩⟩ ⟨Nat.le_refl _, Nat.le_refl _⟩ (fun _ _ _ => rfl) _ (fun e' w' u' hu' hp => ?_)
    have := den_mono hp.le c u hu
    rw [this] at hu'
    cases hu'
    exact ⟨rfl, hp.os, hp.tape, hp.output, hp.size, fun k hk => hp.kept k hk (fun i c p hi => by simp [Mem.at, look_nil] at hi)⟩
  · cases h

/-! ### Blocks that a call has just made -/
def allocs (w : World) : List (TypeId × List Value) → World
  | [] => w
  | c :: r => allocs (w.alloc (.cells c.2.toArray c.1)) r
def numbered : Nat → List (TypeId × List Value) → List (Nat × TypeId × List Value)
  | _, [] => []
  | B, c :: r => (B, c) :: numbered (B + 1) r
theorem allocs_old : ∀ (l : List (TypeId × List Value)) (w : World) (k : Nat), k < w.heap.size → (allocs w l).heap[k]? = w.heap[k]?
  | [], _, _, _ => rfl
  | c :: r, w, k, h => by
    rw [allocs, allocs_old r _ k (by simp; omega)]
    exact heap_alloc_old _ _ _ h
theorem blks_allocs : ∀ (l : List (TypeId × List Value)) (w : World), ∀ x ∈ numbered w.heap.size l, (allocs w l).heap[x.1]? = some (.cells x.2.2.toArray x.2.1 (0, 0))
  | [], _, x, hx => by cases hx
  | c :: r, w, x, hx => by
    rcases List.mem_cons.1 hx with rfl | hx
    · rw [allocs, allocs_old r _ _ (by simp)]
      exact heap_alloc_new _ _
    · refine blks_allocs r (w.alloc (.cells c.2.toArray c.1)) x ?_
      rw [show (w.alloc (Obj.cells c.2.toArray c.1)).heap.size = w.heap.size + 1 by simp]
      exact hx
theorem below_allocs : ∀ (l : List (TypeId × List Value)) {w w' : World}, Below w.heap.size w w' → Below w.heap.size w (allocs w' l)
  | [], _, _, h => h
  | _ :: r, _, _, h => below_allocs r (h.alloc h.size _)

theorem cell_at {w : World} {b i : Nat} {c : Array Value} {t : TypeId} {fz : Nat × Nat} {v : Value} (h : w.heap[b]? = some (.cells c t fz)) (hv : c[i]? = some v) : w.cell? { block := b, off := i } = some v := by
  simp [World.cell?, h, hv]

/-! ### Operations on bits -/
theorem tells_shl {P : Program} {k yk : IntKind} {t : TypeId} {a b r : Int} (hb : 0 ≤ b) (h : k.wrap (a * 2 ^ min b.toNat k.bits) = r) : Tells P (.bin .shl t) [.int k a, .int yk b] (.int k r) :=
  tells_bin (fun w _ _ => by rw [eqGuard_shl]; rfl) fun w => by rw [binOp_shl, shift_shl_any k yk a b hb, h]; rfl
theorem tells_shr {P : Program} {k yk : IntKind} {t : TypeId} {a b r : Int} (hb : 0 ≤ b) (h : a / 2 ^ min b.toNat k.bits = r) : Tells P (.bin .shr t) [.int k a, .int yk b] (.int k r) :=
  tells_bin (fun w _ _ => by rw [eqGuard_shr]; rfl) fun w => by rw [binOp_shr, shift_shr_any k yk a b hb, h]; rfl
theorem tells_or {P : Program} {k : IntKind} {t : TypeId} {a b r : Int} (h : bits .or k a b = r) : Tells P (.bin .or t) [.int k a, .int k b] (.int k r) :=
  tells_bin (guard_int _ _ _ _ _) fun w => by rw [binOp_or, intBits_or, h]; rfl
theorem tells_and {P : Program} {k : IntKind} {t : TypeId} {a b r : Int} (h : bits .and k a b = r) : Tells P (.bin .and t) [.int k a, .int k b] (.int k r) :=
  tells_bin (guard_int _ _ _ _ _) fun w => by rw [binOp_and, intBits_and, h]; rfl
/-- Bits that stand apart: a sum. -/
theorem or_apart {a b : Int} (n : Nat) (a0 : 0 ≤ a) (a1 : a < 18446744073709551616) (b0 : 0 ≤ b) (b1 : b < 18446744073709551616) (ha : a % (2 ^ n : Nat) = 0) (hb : b < (2 ^ n : Nat)) : bits .or .u64 a b = a + b := by
  obtain ⟨a, rfl⟩ := Int.eq_ofNat_of_zero_le a0
  obtain ⟨b, rfl⟩ := Int.eq_ofNat_of_zero_le b0
  rw [bits_or_u64_nat a b (by omega) (by omega)]
  have hd : 2 ^ n ∣ a := Nat.dvd_of_mod_eq_zero (by rw [← Int.natCast_emod] at ha; omega)
  obtain ⟨c, rfl⟩ := hd
  rw [← Nat.two_pow_add_eq_or_of_lt (by omega) c]
  simp
theorem and_mask {a : Int} (n : Nat) (a0 : 0 ≤ a) (a1 : a < 18446744073709551616) (hn : 2 ^ n ≤ 18446744073709551616) : bits .and .u64 a ((2 ^ n - 1 : Nat) : Int) = a % (2 ^ n : Nat) := by
  obtain ⟨a, rfl⟩ := Int.eq_ofNat_of_zero_le a0
  have := Nat.two_pow_pos n
  rw [bits_and_u64_nat a _ (by omega) (by omega), Nat.and_two_pow_sub_one_eq_mod]
  simp
end Go.Ev
