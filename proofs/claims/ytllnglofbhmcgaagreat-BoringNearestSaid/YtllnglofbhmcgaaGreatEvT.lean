/- A symbolic evaluation: trees of cases, and what they prove. -/
import Derived.Test.YtllnglofbhmcgaaGreatEvS
namespace Go.Ev
open Go.RowKit
variable {K : Kinds} {P : Program}

theorem kEq_den {S : Val K} [C : Ctxt] (hS : Ctxt.sym = symOf S) {x : CV} {t : Tm} {_k : IntKind} {e : Env} {v : Value} (h : asTm x = some t) (hk : t.kind K = _k) (hd : den e x = some v) : v = .int _k (tv S t) := by
  subst hk; exact asTm_den hS h hd

theorem mm_same (a : Int) : (if a < a then a else a) = a := by split <;> rfl

theorem autoV_ok {S : Val K} [C : Ctxt] (hS : Ctxt.sym = symOf S) {π : Path} (hs : Sat S π) {key : OpKey} {cs : List CV} {v : CV} (h : autoV P K π key cs = some v) {e : Env} {vals : List Value} (hd : denL e cs = some vals) :
    ∃ u, den e v = some u ∧ Tells P key vals u := by
  unfold autoV at h
  split at h
  · rename_i op t x y
    obtain ⟨xv, _, rfl, hx, h2⟩ := denL_cons hd
    obtain ⟨yv, _, rfl, hy, h3⟩ := denL_cons h2
    simp [denL] at h3; subst h3
    unfold binS at h
    rw [Bool.cond_eq_ite] at h
    split at h
    · cases h
    · split at h
      · rename_i a b ha hb
        rw [Bool.cond_eq_ite] at h
        split at h
        · rename_i hk
          have hk := kEq_eq hk
          have e1 := asTm_den hS ha hx
          have e2 := kEq_den hS hb hk.symm hy
          subst e1; subst e2
          exact arithT_ok hS hs h e t
        · cases h
      · cases h
  · rename_i x
    obtain ⟨xv, _, rfl, hx, h2⟩ := denL_cons hd
    simp [denL] at h2; subst h2
    unfold negS at h
    split at h
    · simp at h; subst h
      have := den_sy hS hx; subst this
      exact ⟨_, den_sy' hS e _, tells_neg rfl⟩
    · cases h
  · rename_i s d x
    obtain ⟨xv, _, rfl, hx, h2⟩ := denL_cons hd
    simp [denL] at h2; subst h2
    unfold convS at h
    split at h
    · rename_i t
      have := den_sy hS hx; subst this
      split at h
      · rename_i us k hu1 hu2
        simp at h; subst h
        cases hc : (inr K t && kEq (t.kind K) k) with
        | false => exact ⟨_, den_sy' hS e _, tells_int hu1 hu2 rfl⟩
        | true =>
          simp only [Bool.and_eq_true] at hc
          have hk := kEq_eq hc.2
          have := inr_wrap S t hc.1
          exact ⟨_, den_sy' hS e t, tells_int hu1 (by rw [hk]; exact hu2) this⟩
      · cases h
    · cases h
  · rename_i x y
    obtain ⟨xv, _, rfl, hx, h2⟩ := denL_cons hd
    obtain ⟨yv, _, rfl, hy, h3⟩ := denL_cons h2
    simp [denL] at h3; subst h3
    unfold mmS at h
    rw [Bool.cond_eq_ite] at h
    split at h
    · cases h
    · split at h
      · rename_i a b ha hb
        rw [Bool.cond_eq_ite] at h
        split at h
        · rename_i hk
          have hk := kEq_eq hk
          have e1 := asTm_den hS ha hx
          have e2 := kEq_den hS hb hk.symm hy
          subst e1; subst e2
          simp at h; subst h
          cases hc : eqT a b with
          | false => exact ⟨_, den_sy' hS e _, tells_mn rfl⟩
          | true =>
            have := eqT_eq hc; subst this
            exact ⟨_, den_sy' hS e _, tells_mn (mm_same _)⟩
        · cases h
      · cases h
  · rename_i x y
    obtain ⟨xv, _, rfl, hx, h2⟩ := denL_cons hd
    obtain ⟨yv, _, rfl, hy, h3⟩ := denL_cons h2
    simp [denL] at h3; subst h3
    unfold mmS at h
    rw [Bool.cond_eq_ite] at h
    split at h
    · cases h
    · split at h
      · rename_i a b ha hb
        rw [Bool.cond_eq_ite] at h
        split at h
        · rename_i hk
          have hk := kEq_eq hk
          have e1 := asTm_den hS ha hx
          have e2 := kEq_den hS hb hk.symm hy
          subst e1; subst e2
          simp at h; subst h
          cases hc : eqT a b with
          | false => exact ⟨_, den_sy' hS e _, tells_mx rfl⟩
          | true =>
            have := eqT_eq hc; subst this
            exact ⟨_, den_sy' hS e _, tells_mx (mm_same _)⟩
        · cases h
      · cases h
  · rename_i t ix
    rw [Bool.cond_eq_ite] at h
    split at h
    · rename_i hl
      obtain ⟨u, h1, h2⟩ := bldV_run (Nat.eq_of_beq_eq_true hl) h hd
      exact ⟨u, h1, tells_bld h2⟩
    · cases h
  · rename_i t f l
    obtain ⟨xv, _, rfl, hx, h2⟩ := denL_cons hd
    simp [denL] at h2; subst h2
    simp only [den, Option.map_eq_some_iff] at hx
    obtain ⟨xs, hx, rfl⟩ := hx
    obtain ⟨u, h1, h2⟩ := fldV_run (xs := xs.toArray) h (by simpa using hx)
    exact ⟨u, h1, tells_fld h2⟩
  · rename_i t l k n
    obtain ⟨xv, _, rfl, hx, h2⟩ := denL_cons hd
    obtain ⟨yv, _, rfl, hy, h3⟩ := denL_cons h2
    simp [denL] at h3; subst h3
    have := den_clo hy; subst this
    simp only [den, Option.map_eq_some_iff] at hx
    obtain ⟨xs, hx, rfl⟩ := hx
    obtain ⟨u, h1, h2⟩ := idxV_run (k := k) (xs := xs.toArray) h (by simpa using hx)
    exact ⟨u, h1, tells_idx h2⟩
  · cases h

/-! ### Contracts -/
theorem InRng_append : ∀ {ks ls : List IntKind} {xs ys : List Int}, InRng ks xs → InRng ls ys → InRng (ks ++ ls) (xs ++ ys)
  | [], _, [], _, _, h => h
  | _ :: _, _, _ :: _, _, h, h' => ⟨h.1, InRng_append h.2 h'⟩
  | [], _, _ :: _, _, h, _ => h.elim
  | _ :: _, _, [], _, h, _ => h.elim
theorem InRng_length : ∀ {ks : List IntKind} {xs : List Int}, InRng ks xs → xs.length = ks.length
  | [], [], _ => rfl
  | k :: ks, x :: xs, h => by simp [InRng_length h.2]
  | [], _ :: _, h => h.elim
  | _ :: _, [], h => h.elim

theorem argsT_den {S : Val K} [C : Ctxt] (hS : Ctxt.sym = symOf S) {e : Env} : ∀ {sh : List Sh} {cs : List CV} {ts : List Tm} {vals : List Value}, argsT K sh cs = some ts → denL e cs = some vals →
    vals = shV sh (ts.map (tv S)) ∧ InRng (shK sh) (ts.map (tv S))
  | [], [], ts, vals, h, hd => by
    simp [argsT] at h; subst h
    simp [denL] at hd; subst hd
    exact ⟨rfl, trivial⟩
  | .i k :: s, a :: r, ts, vals, h, hd => by
    obtain ⟨x, xs, rfl, h1, h2⟩ := denL_cons hd
    simp only [argsT] at h
    split at h
    · rename_i t1 t2 ht1 ht2
      simp at h; subst h
      obtain ⟨i1, i2⟩ := argsT_den hS ht2 h2
      obtain ⟨j1, j2, j3⟩ := tms_den hS ht1 (denL_cons' h1 (by rfl : denL e [] = some []))
      match t1, j3 with
      | [t], _ =>
        simp only [List.map_cons, List.map_nil, valK, List.cons.injEq, and_true] at j1
        refine ⟨?_, ?_⟩
        · rw [j1, i1]; rfl
        · exact InRng_append (ks := [k]) j2 i2
    · cases h
  | .agg ks :: s, a :: r, ts, vals, h, hd => by
    obtain ⟨x, xs, rfl, h1, h2⟩ := denL_cons hd
    simp only [argsT] at h
    split at h
    · rename_i t1 t2 ht1 ht2
      simp at h; subst h
      obtain ⟨i1, i2⟩ := argsT_den hS ht2 h2
      obtain ⟨j1, j2, j3⟩ := tmsA_den hS ht1 h1
      refine ⟨?_, ?_⟩
      · rw [j1, i1, shV]
        have hl : (t1.map (tv S)).length = ks.length := by simp [j3]
        rw [List.map_append, List.take_append_of_le_length (by omega), List.take_of_length_le (by omega), List.drop_append, List.drop_of_length_le (by omega), hl]
        simp
      · rw [List.map_append]; exact InRng_append j2 i2
    · cases h
  | [], _ :: _, ts, vals, h, hd => by simp [argsT] at h
  | .i _ :: _, [], ts, vals, h, hd => by simp [argsT] at h
  | .agg _ :: _, [], ts, vals, h, hd => by simp [argsT] at h

theorem row_rowT (S : Val K) : ∀ (ts : List Tm), row S (rowT ts) = ts.map (tv S)
  | [] => rfl
  | t :: r => by rw [rowT, row, row_rowT S r, List.map_cons]

theorem partsR_den {S : Val K} [C : Ctxt] (hS : Ctxt.sym = symOf S) {π : Path} (hs : Sat S π) {ts : List Tm} (e : Env) : ∀ {rp : List RP} {l : List CV}, partsR π (rowT ts) rp = some l → denL e l = some (rp.map (rpV S (ts.map (tv S))))
  | [], l, h => by simp [partsR] at h; subst h; rfl
  | p :: r, l, h => by
    simp only [partsR] at h
    split at h
    · rename_i x y hx hy
      simp at h; subst h
      refine denL_cons' ?_ (partsR_den hS hs e hy)
      cases p with
      | c v => simp [partR] at hx; subst hx; rfl
      | i id =>
        simp [partR] at hx; subst hx
        rw [den_sy' hS]
        simp [Tm.kind, tv, row_rowT, rpV]
      | b id =>
        simp only [partR] at hx
        split at hx
        · rename_i b hb
          simp at hx; subst hx
          have := known_ok hs hb
          simp only [atV, row_rowT] at this
          simp only [den, rpV, this]
        · cases hx
      | agg ids =>
        simp [partR] at hx; subst hx
        have key : ∀ (ids : List Nat), denL e (ids.map fun id => CV.sy (.fn id (rowT ts))) = some (ids.map fun id => Value.int (K.fk id) (S.fv id (ts.map (tv S)))) := by
          intro ids
          induction ids with
          | nil => rfl
          | cons a b ih =>
            refine denL_cons' ?_ ih
            rw [den_sy' hS]
            simp [Tm.kind, tv, row_rowT]
        simp [den, key ids, rpV]
    · cases h

theorem preOK_ok {S : Val K} {π : Path} (hs : Sat S π) {ts : List Tm} : ∀ {l : List Pre}, preOK π ts l = true → ∀ p ∈ l, preV S.fv (ts.map (tv S)) p
  | [], _, p, hp => by cases hp
  | .fn id off len k n :: r, h, p, hp => by
    simp only [preOK] at h
    split at h
    · rename_i hk
      have h1 := known_ok hs hk
      simp only [atV, tv, row_rowT] at h1
      have h1 := of_decide_eq_true h1
      rcases List.mem_cons.1 hp with rfl | hp
      · rw [preV, ← List.map_drop, ← List.map_take]; exact h1
      · exact preOK_ok hs h p hp
    · cases h
  | .bd i k lo hi :: r, h, p, hp => by
    simp only [preOK] at h
    split at h
    · cases h
    · rename_i t ht
      split at h
      · rename_i hk1 hk2
        have h1 := known_ok hs hk1
        have h2 := known_ok hs hk2
        simp only [atV, tv] at h1 h2
        have h1 := of_decide_eq_false h1
        have h2 := of_decide_eq_false h2
        rcases List.mem_cons.1 hp with rfl | hp
        · have : (ts.map (tv S)).getD i 0 = tv S t := by simp [List.getD_eq_getElem?_getD, ht]
          rw [preV, this]; omega
        · exact preOK_ok hs h p hp
      · cases h

theorem kcF_ok {S : Val K} [C : Ctxt] (hS : Ctxt.sym = symOf S) {π : Path} (hs : Sat S π) {Kw : World → Prop} {f : FuncId} {args : List CV} {v : CV} : ∀ {cons : List Con}, (∀ c ∈ cons, ConOK P S Kw c) → kcF K cons π f args = some v →
    ∀ (e : Env) (xs : List Value) (w : World), Kw w → denL e args = some xs → Calls P f xs.toArray w fun r w' => (∃ u, den e v = some u ∧ r = .returned u) ∧ Below w.heap.size w w'
  | [], _, h => by simp [kcF] at h
  | c :: r, hc, h => by
    intro e xs w hK hd
    rw [kcF, Bool.cond_eq_ite] at h
    split at h
    · rename_i hf
      have hf := Nat.eq_of_beq_eq_true hf
      split at h
      · cases h
      · rename_i ts hts
        rw [Bool.cond_eq_ite] at h
        split at h
        · rename_i hpre
          split at h
          case h_2 => cases h
          rename_i l hl
          simp at h; subst h
          obtain ⟨h1, h2⟩ := argsT_den hS hts hd
          have hcon := hc c (by simp) _ h2 (preOK_ok hs hpre) w hK
          rw [hf, ← h1] at hcon
          refine hcon.mono fun q w' ⟨g1, g2⟩ => ⟨⟨_, ?_, g1⟩, g2⟩
          have hdl := partsR_den hS hs e hl
          unfold resV
          have hlen := denL_length hdl
          match l, hdl, hlen with
          | [], hdl, hlen => simp [denL] at hdl; simp [oneTup, den, denL, ← hdl, oneV]
          | [x], hdl, hlen =>
            obtain ⟨y, ys, he, hy, hys⟩ := denL_cons hdl
            simp [denL] at hys; subst hys
            rw [he]; exact hy
          | x :: x' :: s, hdl, hlen =>
            simp only [oneTup, den, hdl, Option.map_some]
            generalize c.rp.map (rpV S (ts.map (tv S))) = zs at *
            match zs, hlen with
            | a :: b :: z, _ => rfl
        · exact kcF_ok hS hs (fun c' hc' => hc c' (by simp [hc'])) h e xs w hK hd
    · exact kcF_ok hS hs (fun c' hc' => hc c' (by simp [hc'])) h e xs w hK hd

theorem symC_known {S : Val K} {cons : List Con} {eqs : FlatTab} {Kw : World → Prop} {B : Nat} {kst : ∀ w w', Kw w → Below B w w' → Kw w'} {π : Path} (hc : ∀ c ∈ cons, ConOK P S Kw c) (hq : flatTabOK P eqs = true) (hs : Sat S π) : @KnownOK (symC P S cons eqs Kw B kst π) P := by
  refine ⟨⟨⟨⟨@abOK_no (symC P S cons eqs Kw B kst π) _ rfl, fun k cs v hv e vals hd => ?_⟩, fun op t x y b hb e xv yv hx hy w xo yo => ?_⟩, fun f args v hv e xs w hK hd => ?_⟩, @clOK_no (symC P S cons eqs Kw B kst π) P rfl⟩
  · obtain ⟨u, h1, h2⟩ := @autoV_ok K P S (symC P S cons eqs Kw B kst π) rfl π hs k cs v hv e vals hd
    exact ⟨u, h1, h2.in _⟩
  · exact @autoE_ok K P S (symC P S cons eqs Kw B kst π) rfl eqs hq π hs op t x y b hb e xv yv hx hy w xo yo
  · exact @kcF_ok K P S (symC P S cons eqs Kw B kst π) rfl π hs Kw f args v cons hc hv e xs w hK hd

/-! ### A call whose result may hold symbols -/
theorem calls_besideC [Ctxt] (hm : P.follows .mixedOrders = true) (hk : KnownOK P) (hpin : Ctxt.pin = 0) {n : Nat} {f : FuncId} {args : List CV} {xs : List Value} (hx : denL (fun _ => none) args = some xs) {c : CV} {u : Value} {M' : Mem}
    (h : evalFn0 P (evalC P n true) 0 f args ⟨0, []⟩ = some (c, M')) (hu : den (fun _ => none) c = some u) (w : World) (hK : Ctxt.K w) (hBs : Ctxt.B ≤ w.heap.size) :
    Calls P f xs.toArray w fun e w' => e = .returned u ∧ Below w.heap.size w w' := by
  obtain ⟨hn1, hc1⟩ := evalFn0_ok (evalC_ok hm hk n true)
  refine hc1 0 f _ _ _ _ h (fun _ => none) w xs hx ⟨fun i b h => by simp [Mem.at, look_nil] at h, fun i b h => by simp [Mem.at, look_nil] at h, fun i j b c p q hb => by simp [Mem.at, look_nil] at hb, fun i p hi => by simp, by rw [hpin]; exact Nat.le_refl _, hK, hBs, fun i p hi hp => by cases hp⟩ ⟨by rw [hpin]; exact Nat.le_refl _, Nat.le_refl _⟩ (fun _ _ _ => rfl) _ (fun e' w' u' hu' hp => ?_)
  have := den_mono hp.le c u hu
  rw [this] at hu'
  cases hu'
  exact ⟨rfl, hp.os, hp.tape, hp.output, hp.size, fun k hk => hp.kept k hk (fun i c p hi => by simp [Mem.at, look_nil] at hi)⟩

/-! ### Trees of cases -/
inductive Tr
  | leaf (r : CV)
  | br (a : Atom) (t f : Tr)

/-- The value of a term of a result. -/
@[reducible] def plainC (S : Val K) : Ctxt := ⟨0, symOf S, fun _ _ => none, fun _ _ _ _ => none, fun _ _ => none, fun _ => True, 0, fun _ _ _ _ => trivial, .no⟩
def dnS (S : Val K) (c : CV) : Option Value := @den (plainC S) (fun _ => none) c
def dnLS (S : Val K) (c : List CV) : Option (List Value) := @denL (plainC S) (fun _ => none) c

mutual
theorem den_sym {C D : Ctxt} (h : C.sym = D.sym) {e : Env} : ∀ (x : CV), @den C e x = @den D e x
  | .clo v => rfl
  | .ptr i o => rfl
  | .sl i o n k s => rfl
  | .sy i => by simp only [den, h]
  | .yl i => rfl
  | .lp .. => rfl
  | .df => rfl
  | .mp .. => rfl
  | .mo .. => rfl
  | .si .. => rfl
  | .as i n => by simp only [den, h]
  | .ab .. => rfl
  | .pa i k z off => by simp only [den, den_sym h k]
  | .fn f l m => by simp only [den, denL_sym h l, denL_sym h m]
  | .agg l => by simp only [den, denL_sym h l]
  | .tup l => by simp only [den, denL_sym h l]
theorem denL_sym {C D : Ctxt} (h : C.sym = D.sym) {e : Env} : ∀ (l : List CV), @denL C e l = @denL D e l
  | [] => rfl
  | x :: r => by simp only [denL, den_sym h x, denL_sym h r]
end

def sameRes (c : CV) : Option (CV × Mem) → Bool
  | some r => eqC c r.1
  | none => false

/-- A way that no values take. -/
def contra (π : Path) : Bool := π.any fun q => match byBd q.1 π with | some b => cond b (!q.2) q.2 | none => false
theorem contra_ok {S : Val K} {π : Path} (hs : Sat S π) (h : contra π = true) : False := by
  unfold contra at h
  obtain ⟨q, hq, h⟩ := List.any_eq_true.1 h
  split at h
  · rename_i b hb
    have h1 := byBd_ok hs hb
    rw [hs q hq] at h1
    rw [h1] at h
    cases b <;> cases h
  · cases h

/-- The evaluation on each way yields the leaf that stands there. -/
noncomputable def okTr (P : Program) (S : Val K) (cons : List Con) (eqs : FlatTab) (Kw : World → Prop) (B : Nat) (kst : ∀ w w', Kw w → Below B w w' → Kw w') (n : Nat) (f : FuncId) (args : List CV) : Path → Tr → Bool
  | π, .leaf r => contra π || sameRes r (evalFn0 P (@evalC (symC P S cons eqs Kw B kst π) P n true) 0 f args ⟨0, []⟩)
  | π, .br a t e => okTr P S cons eqs Kw B kst n f args ((a, true) :: π) t && okTr P S cons eqs Kw B kst n f args ((a, false) :: π) e

/-- What a tree yields. -/
def trV (S : Val K) : Tr → Option Value
  | .leaf r => dnS S r
  | .br a t e => cond (atV S a) (trV S t) (trV S e)

theorem okTr_calls {S : Val K} {cons : List Con} {eqs : FlatTab} {Kw : World → Prop} {B : Nat} {kst : ∀ w w', Kw w → Below B w w' → Kw w'} (hm : P.follows .mixedOrders = true) (hc : ∀ c ∈ cons, ConOK P S Kw c) (hq : flatTabOK P eqs = true)
    {n : Nat} {f : FuncId} {args : List CV} {xs : List Value} (hx : dnLS S args = some xs) : ∀ (T : Tr) (π : Path), Sat S π → okTr P S cons eqs Kw B kst n f args π T = true → ∀ u, trV S T = some u → ∀ w, Kw w → B ≤ w.heap.size →
      Calls P f xs.toArray w fun e w' => e = .returned u ∧ Below w.heap.size w w'
  | .leaf r, π, hs, h, u, hu, w, hK, hB => by
    simp only [okTr, Bool.or_eq_true] at h
    rcases h with h | h
    · exact (contra_ok hs h).elim
    unfold sameRes at h
    split at h
    · rename_i q hq'
      have he := eqC_eq _ _ h
      obtain ⟨c, M'⟩ := q
      simp only at he; subst he
      refine @calls_besideC P (symC P S cons eqs Kw B kst π) hm (symC_known hc hq hs) rfl n f args xs ?_ r u M' hq' ?_ w hK hB
      · rw [← hx]; exact @denL_sym (symC P S cons eqs Kw B kst π) (plainC S) rfl _ args
      · rw [← hu]; exact @den_sym (symC P S cons eqs Kw B kst π) (plainC S) rfl _ r
    · cases h
  | .br a t e, π, hs, h, u, hu, w, hK, hB => by
    simp only [okTr, Bool.and_eq_true] at h
    simp only [trV] at hu
    cases ha : atV S a with
    | true =>
      rw [ha] at hu
      exact okTr_calls hm hc hq hx t ((a, true) :: π) (fun q hq => by
        rcases List.mem_cons.1 hq with rfl | hq
        · exact ha
        · exact hs q hq) h.1 u hu w hK hB
    | false =>
      rw [ha] at hu
      exact okTr_calls hm hc hq hx e ((a, false) :: π) (fun q hq => by
        rcases List.mem_cons.1 hq with rfl | hq
        · exact ha
        · exact hs q hq) h.2 u hu w hK hB

/-! ### Ways that are ruled out from outside -/
/-- All that this path says is known. -/
def covers (π : Path) (b : Path) : Bool := b.all fun q => match known π q.1 with | some c => cond c q.2 (!q.2) | none => false
theorem covers_ok {S : Val K} {π b : Path} (hs : Sat S π) (h : covers π b = true) : Sat S b := fun q hq => by
  have := (List.all_eq_true.1 h) q hq
  split at this
  · rename_i c hc
    rw [known_ok hs hc]
    cases c <;> cases hq2 : q.2 <;> simp [hq2] at this ⊢
  · cases this
noncomputable def okTrB (P : Program) (S : Val K) (cons : List Con) (eqs : FlatTab) (Kw : World → Prop) (B : Nat) (kst : ∀ w w', Kw w → Below B w w' → Kw w') (n : Nat) (f : FuncId) (args : List CV) (bads : List Path) : Path → Tr → Bool
  | π, .leaf r => contra π || bads.any (covers π) || sameRes r (evalFn0 P (@evalC (symC P S cons eqs Kw B kst π) P n true) 0 f args ⟨0, []⟩)
  | π, .br a t e => okTrB P S cons eqs Kw B kst n f args bads ((a, true) :: π) t && okTrB P S cons eqs Kw B kst n f args bads ((a, false) :: π) e

theorem okTrB_calls {S : Val K} {cons : List Con} {eqs : FlatTab} {Kw : World → Prop} {B : Nat} {kst : ∀ w w', Kw w → Below B w w' → Kw w'} (hm : P.follows .mixedOrders = true) (hc : ∀ c ∈ cons, ConOK P S Kw c) (hq : flatTabOK P eqs = true)
    {n : Nat} {f : FuncId} {args : List CV} {xs : List Value} (hx : dnLS S args = some xs) (bads : List Path) (hb : ∀ b ∈ bads, ¬ Sat S b) : ∀ (T : Tr) (π : Path), Sat S π → okTrB P S cons eqs Kw B kst n f args bads π T = true → ∀ u, trV S T = some u → ∀ w, Kw w → B ≤ w.heap.size →
      Calls P f xs.toArray w fun e w' => e = .returned u ∧ Below w.heap.size w w'
  | .leaf r, π, hs, h, u, hu, w, hK, hB => by
    simp only [okTrB, Bool.or_eq_true] at h
    rcases h with (h | h) | h
    · exact (contra_ok hs h).elim
    · obtain ⟨b, h1, h2⟩ := List.any_eq_true.1 h
      exact (hb b h1 (covers_ok hs h2)).elim
    · exact okTr_calls (n := n) (kst := kst) hm hc hq hx (.leaf r) π hs (by simp only [okTr, Bool.or_eq_true]; exact .inr h) u hu w hK hB
  | .br a t e, π, hs, h, u, hu, w, hK, hB => by
    simp only [okTrB, Bool.and_eq_true] at h
    simp only [trV] at hu
    cases ha : atV S a with
    | true =>
      rw [ha] at hu
      exact okTrB_calls hm hc hq hx bads hb t ((a, true) :: π) (fun q hq => by
        rcases List.mem_cons.1 hq with rfl | hq
        · exact ha
        · exact hs q hq) h.1 u hu w hK hB
    | false =>
      rw [ha] at hu
      exact okTrB_calls hm hc hq hx bads hb e ((a, false) :: π) (fun q hq => by
        rcases List.mem_cons.1 hq with rfl | hq
        · exact ha
        · exact hs q hq) h.2 u hu w hK hB

/-- Everywhere. -/
abbrev anyW : World → Prop := fun _ => True
theorem okTr_any {S : Val K} {cons : List Con} {eqs : FlatTab} (hm : P.follows .mixedOrders = true) (hc : ∀ c ∈ cons, ConOK P S anyW c) (hq : flatTabOK P eqs = true)
    {n : Nat} {f : FuncId} {args : List CV} {xs : List Value} (hx : dnLS S args = some xs) {T : Tr} (h : okTr P S cons eqs anyW 0 (fun _ _ _ _ => trivial) n f args [] T = true) {u : Value} (hu : trV S T = some u) (w : World) :
    Calls P f xs.toArray w fun e w' => e = .returned u ∧ Below w.heap.size w w' :=
  okTr_calls hm hc hq hx T [] (fun _ h => by cases h) h u hu w trivial (Nat.zero_le _)

/-! ### The ways that do not lead to 'true' -/
def isTrueLeaf : CV → Bool
  | .clo (.bool true) => true
  | _ => false
def badW : Path → Tr → List Path
  | π, .leaf r => cond (isTrueLeaf r) [] [π]
  | π, .br a t e => badW ((a, true) :: π) t ++ badW ((a, false) :: π) e

theorem true_of_bad {S : Val K} : ∀ (T : Tr) (π : Path), Sat S π → (∀ p ∈ badW π T, ¬ Sat S p) → trV S T = some (.bool true)
  | .leaf r, π, hs, h => by
    simp only [badW] at h
    cases hr : isTrueLeaf r with
    | false => rw [hr] at h; exact absurd hs (h π (by simp))
    | true =>
      unfold isTrueLeaf at hr
      split at hr
      · rfl
      · cases hr
  | .br a t e, π, hs, h => by
    simp only [badW] at h
    simp only [trV]
    cases ha : atV S a with
    | true =>
      exact true_of_bad t ((a, true) :: π) (fun q hq => by
        rcases List.mem_cons.1 hq with rfl | hq
        · exact ha
        · exact hs q hq) fun p hp => h p (List.mem_append_left _ hp)
    | false =>
      exact true_of_bad e ((a, false) :: π) (fun q hq => by
        rcases List.mem_cons.1 hq with rfl | hq
        · exact ha
        · exact hs q hq) fun p hp => h p (List.mem_append_right _ hp)

theorem bad_true {S : Val K} {T : Tr} (h : ∀ p ∈ badW [] T, ¬ Sat S p) : trV S T = some (.bool true) := true_of_bad T [] (fun _ h => by cases h) h

end Go.Ev
