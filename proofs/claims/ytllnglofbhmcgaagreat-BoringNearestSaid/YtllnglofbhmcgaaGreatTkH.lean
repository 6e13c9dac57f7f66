/- Lists that a call is given: elements of z cells each. -/
import Derived.Test.YtllnglofbhmcgaaGreatTkG
namespace Go.Ev
open Go.RowKit
abbrev ivZ (z : Int) : Value := .int .i64 z
section
variable {α : Type} {enc : α → List Value} {z : Nat}
/-- The cells of a list. -/
def elC (enc : α → List Value) (L : List α) : List Value := L.flatMap enc
theorem elC_cons (p : α) (L : List α) : elC enc (p :: L) = enc p ++ elC enc L := rfl
theorem elC_append (L M : List α) : elC enc (L ++ M) = elC enc L ++ elC enc M := by unfold elC; rw [List.flatMap_append]
theorem elC_len (h : ∀ x, (enc x).length = z) : ∀ (L : List α), (elC enc L).length = L.length * z
  | [] => by simp [elC]
  | p :: L => by rw [elC_cons, List.length_append, h, elC_len h L, List.length_cons, Nat.succ_mul]; omega
theorem elC_get (h : ∀ x, (enc x).length = z) : ∀ (L : List α) (k : Nat) (p : α) (j : Nat), L[k]? = some p → j < z → (elC enc L)[k * z + j]? = (enc p)[j]?
  | [], k, p, j, h, _ => by simp at h
  | q :: L, 0, p, j, hp, hj => by
    simp at hp; subst hp
    rw [elC_cons, Nat.zero_mul, Nat.zero_add, List.getElem?_append_left (by rw [h]; exact hj)]
  | q :: L, k + 1, p, j, hp, hj => by
    rw [elC_cons, List.getElem?_append_right (by rw [h, Nat.succ_mul]; omega), h, show (k + 1) * z + j - z = k * z + j by rw [Nat.succ_mul]; omega]
    exact elC_get h L k p j (by simpa using hp) hj
theorem elC_inj (h : ∀ x, (enc x).length = z) (hi : ∀ x y, enc x = enc y → x = y) : ∀ {L M : List α}, elC enc L = elC enc M → L.length = M.length → L = M
  | [], [], _, _ => rfl
  | p :: L, q :: M, he, hl => by
    rw [elC_cons, elC_cons] at he
    obtain ⟨h1, h2⟩ := List.append_inj he (by rw [h, h])
    rw [hi _ _ h1, elC_inj h hi h2 (by simpa using hl)]
/-- A list that a call is given, in blocks below B. -/
structure ElAt (enc : α → List Value) (B : Nat) (L : List α) (a : Option Addr) (w : World) : Prop where
  ex : 0 < L.length → ∃ a', a = some a'
  cell : ∀ a', a = some a' → (0 < L.length → a'.block < B) ∧ ∀ j x, (elC enc L)[j]? = some x → w.cell? (a'.add j) = some x
theorem addB (a : Addr) (j : Nat) : (a.add j).block = a.block := by
  unfold Addr.add
  split <;> rfl
theorem addA (a : Addr) (i j : Nat) : (a.add i).add j = a.add (i + j) := by
  unfold Addr.add
  by_cases h1 : i = 0
  · subst h1; simp
  · by_cases h2 : j = 0
    · subst h2; simp
    · rw [if_neg h1, if_neg h2, if_neg (by omega)]
      simp [Nat.add_assoc]
theorem ElAt.below {B B' : Nat} {L : List α} {a : Option Addr} {w w' : World} (h : ElAt enc B L a w) (hb : Below B' w w') (hB : B ≤ B') : ElAt enc B L a w' :=
  ⟨h.ex, fun a' ha => ⟨(h.cell a' ha).1, fun j x hx => by
    have h0 : 0 < L.length := by
      cases L with
      | nil => simp [elC] at hx
      | cons _ _ => simp
    have := hb.cell (p := a'.add j) (by rw [addB]; exact Nat.lt_of_lt_of_le ((h.cell a' ha).1 h0) hB)
    exact this.trans ((h.cell a' ha).2 j x hx)⟩⟩
theorem ElAt.kst {B : Nat} {L : List α} {a : Option Addr} : ∀ w w', ElAt enc B L a w → Below B w w' → ElAt enc B L a w' := fun _ _ h hb => h.below hb (Nat.le_refl _)
theorem elAt_nil (B : Nat) (w : World) : ElAt enc B [] none w := ⟨fun h => by simp at h, fun _ h => by cases h⟩
theorem ElAt.tight {B : Nat} {L : List α} {a : Option Addr} {w : World} (h : ElAt enc B L a w) (hz : ∀ x, 0 < (enc x).length) : ∃ B', ElAt enc B' L a w ∧ B' ≤ w.heap.size := by
  cases L with
  | nil => exact ⟨0, ⟨h.ex, fun a' ha => ⟨fun h => absurd h (Nat.lt_irrefl _), fun j x hx => by simp [elC] at hx⟩⟩, Nat.zero_le _⟩
  | cons p L =>
    obtain ⟨a', rfl⟩ := h.ex (by simp)
    refine ⟨a'.block + 1, ⟨h.ex, fun b hb => ?_⟩, ?_⟩
    · cases hb
      exact ⟨fun _ => Nat.lt_succ_self _, (h.cell a' rfl).2⟩
    · have h2 := (h.cell a' rfl).2 0 ((enc p)[0]'(hz p)) (by rw [elC_cons, List.getElem?_append_left (hz p)]; simp)
      have := World.block_lt_of_cell? w _ h2
      rw [addB] at this
      exact this
/-- An element at an index, loaded. -/
theorem opKey_ldE {o : Op} {t : TypeId} {xs : List Operand} (h : opKey o = some (.ld t, xs)) : ∃ x, o = .load t x ∧ xs = [x] := by
  unfold opKey at h
  repeat' split at h
  all_goals simp at h
  rename_i t' x
  obtain ⟨rfl, rfl⟩ := h
  exact ⟨x, rfl, rfl⟩
theorem opKey_ixaE {o : Op} {t : TypeId} {xs : List Operand} (h : opKey o = some (.ixa t, xs)) : ∃ x i, o = .indexAddr t x i ∧ xs = [x, i] := by
  unfold opKey at h
  repeat' split at h
  all_goals simp at h
  rename_i t' x i
  obtain ⟨rfl, rfl⟩ := h
  exact ⟨x, i, rfl, rfl⟩
theorem tells_ixaE {P : Program} {t e : TypeId} {a : Addr} {n c k z : Nat} (hu : P.underlying t = some (.slice e)) (hz : (P.info? e).map (·.size) = some z) (hk : k < n) :
    Tells P (.ixa t) [.slice (some a) n c, ivZ k] (.pointer (some (a.add (k * z)))) := by
  obtain ⟨inf, hi, rfl⟩ := Option.map_eq_some_iff.1 hz
  intro o ρ xs hq hx w
  obtain ⟨dst, oo, type, pos, after, guard⟩ := o
  obtain ⟨x, i, ho, rfl⟩ := opKey_ixaE hq
  simp only at ho; subst ho
  simp at hx
  obtain ⟨h1, h2⟩ := hx
  have h3 : (0 : Int) ≤ (k : Int) := by omega
  have h4 : (k : Int) < (n : Int) := by omega
  simp [execOp, h1, h2, Instr.indexAt, asIntOf, run_underlying hu, h3, hk, sizeOf, typeInfo, hi]
theorem tells_ldE {P : Program} {K : World → Prop} {t : TypeId} {a : Addr} {cs : List Value} (hr : (P.underlying t).map (·.isRow) = some true) (hi : (P.info? t).map (·.size) = some cs.length)
    (hc : ∀ w, K w → ∀ j x, cs[j]? = some x → w.cell? (a.add j) = some x) : TellsIn P K (.ld t) [.pointer (some a)] (.agg cs.toArray) := by
  obtain ⟨d, hu, hd⟩ := Option.map_eq_some_iff.1 hr
  intro o ρ xs hq hx w hw
  obtain ⟨dst, oo, type, pos, after, guard⟩ := o
  obtain ⟨x, ho, rfl⟩ := opKey_ldE hq
  simp only at ho; subst ho
  simp at hx
  have hl : (loadCells a cs.length).run P w = .ok cs.toArray w := run_loadCells_list (P := P) w a cs (hc w hw)
  cases hq : P.info? t with
  | none => simp [hq] at hi
  | some i =>
    have hs : i.size = cs.length := by simpa [hq] using hi
    have hagg : (isAgg t).run P w = .ok true w := by
      unfold isAgg
      rw [Sem.run_bind, run_underlying hu w]
      cases d <;> simp_all
    simp [execOp, Instr.loadAt, hx, Instr.sureAddr, loadVar, Sem.run_bind, hagg, sizeOf, typeInfo, hq, hs, hl]
theorem ElAt.ld {P : Program} {K : World → Prop} {B : Nat} {L : List α} {a : Addr} {k : Nat} {p : α} {t : TypeId} (hz : ∀ x, (enc x).length = z) (hr : (P.underlying t).map (·.isRow) = some true) (hi : (P.info? t).map (·.size) = some z)
    (hK : ∀ w, K w → ElAt enc B L (some a) w) (hp : L[k]? = some p) : TellsIn P K (.ld t) [.pointer (some (a.add (k * z)))] (.agg (enc p).toArray) := by
  refine tells_ldE (cs := enc p) hr (by rw [hz]; exact hi) fun w hw j x hx => ?_
  have hj : j < z := by have := (List.getElem?_eq_some_iff.1 hx).1; rwa [hz] at this
  rw [addA]
  exact ((hK w hw).cell a rfl).2 _ _ ((elC_get hz L k p j hp hj).trans hx)
/-- A row that is there, as a list that a call is given. -/
theorem elAt_row {M : List α} {p : Nat × Nat} {w : World} {t : TypeId} {c : Array Value} (h1 : w.heap[p.1]? = some (.cells c t (0, 0))) (h2 : c.toList.take (elC enc M).length = elC enc M) : ElAt enc (p.1 + 1) M (some ⟨p.1, 0, none⟩) w ∧ p.1 < w.heap.size := by
  refine ⟨⟨fun _ => ⟨_, rfl⟩, fun b hb => ?_⟩, (Array.getElem?_eq_some_iff.1 h1).1⟩
  cases hb
  refine ⟨fun _ => Nat.lt_succ_self _, fun j x hx => ?_⟩
  have h4 : c.toList[j]? = some x := by
    rw [← h2, List.getElem?_take] at hx
    split at hx
    · exact hx
    · cases hx
  have h5 : c[j]? = some x := by simpa using h4
  rw [Addr.add_mid]
  simp [World.cell?, h1, h5]
theorem elAt_ls {lst : Tm → List Value} {y : Tm} {M : List α} {p : Nat × Nat} {w : World} {t : TypeId} {zz : Nat} (hl : lst y = elC enc M) (h : LsAt lst (y, t, zz) p w) : ElAt enc (p.1 + 1) M (some ⟨p.1, 0, none⟩) w ∧ p.1 < w.heap.size := by
  obtain ⟨c, h1, h2, _⟩ := h
  simp only [hl] at h1 h2
  exact elAt_row h1 h2
/-- A slice that a call owns: nil, or a row of the call's own. -/
abbrev OwnL (enc : α → List Value) (t : TypeId) (z base : Nat) (L : List α) (v : Value) (w : World) : Prop := w.ownsRow base t z v L.length (elC enc L)
theorem OwnL.slice {t : TypeId} {base : Nat} {L : List α} {v : Value} {w : World} (h : OwnL enc t z base L v w) (hz : ∀ x, (enc x).length = z) : ∃ a c, v = .slice a L.length c ∧ (a = none → c = 0) ∧ ElAt enc w.heap.size L a w := by
  rcases h.2 with ⟨rfl, hn⟩ | ⟨g, cap, cur, rfl, g1, g2, g3, g4, g5, g6⟩
  · cases L with
    | nil => exact ⟨none, 0, rfl, fun _ => rfl, elAt_nil _ _⟩
    | cons p L => simp at hn
  · refine ⟨some ⟨g, 0, none⟩, cap, rfl, (fun h => by cases h), ?_⟩
    obtain ⟨q1, q2⟩ := elAt_row (enc := enc) (p := (g, cap)) (M := L) g2 (by rw [elC_len hz]; exact g6)
    exact ⟨q1.ex, fun b hb => ⟨fun _ => by cases hb; exact q2, (q1.cell b hb).2⟩⟩
theorem OwnL.grow {t : TypeId} {base B' : Nat} {L : List α} {v : Value} {w w' : World} (h : OwnL enc t z base L v w) (hb : Below B' w w') (hB : ∀ k, v.ownBlock = some k → k < B') : OwnL enc t z base L v w' := by
  refine ⟨h.1, h.2.imp id ?_⟩
  rintro ⟨g, cap, cur, rfl, g1, g2, g3⟩
  exact ⟨g, cap, cur, rfl, g1, (hb.block g (hB g rfl)).trans g2, g3⟩
end
/-- **A call, worked out**, over blocks that its arguments lead to: its result may hold new rows. -/
theorem calls_X [Ctxt] {P : Program} (hm : P.follows .mixedOrders = true) (hk : KnownOK P) (hpin : Ctxt.pin = 0) (fuel : Nat) {f : FuncId} {args : List CV} {xs : List Value} (bl : List Blk) (pl : List (Nat × Nat)) (want : CV) (ns : List Nat) (bc : List (Option Blk)) {w : World}
    (h : outF ns (evalFn0 P (@evalC _ P fuel true) 0 f args ⟨bl.length, memOf 0 bl⟩) = some (want, bc))
    (hnd : (pl.map (·.1)).Nodup) (hl : pl.length = bl.length) (hKw : Ctxt.K w) (hBw : Ctxt.B ≤ w.heap.size) (hpl : ∀ p ∈ pl, Ctxt.B ≤ p.1)
    (hx : denL (plX pl) args = some xs) (hbl : ∀ (i : Nat) (b : Blk), bl[i]? = some b → ∃ p, pl[i]? = some p ∧ RepB (plX pl) b p w) :
    Calls P f xs.toArray w fun q w' => Near (pl.map (·.1)) w w' ∧ ∃ e' : Env, (∃ u, den e' want = some u ∧ q = .returned u) ∧
      (∀ (j i : Nat) (b : Blk), ns[j]? = some i → bc[j]? = some (some b) → ∃ p, e' i = some p ∧ RepB e' b p w' ∧ (w.heap.size ≤ p.1 ∨ ∃ q ∈ pl, q.1 = p.1)) := by
  unfold outF at h
  split at h
  · rename_i c M' hev
    simp only [Option.some.injEq, Prod.mk.injEq] at h
    obtain ⟨rfl, rfl⟩ := h
    obtain ⟨hn1, hc1⟩ := evalFn0_ok (evalC_ok hm hk fuel true)
    have hat : ∀ i, (⟨bl.length, memOf 0 bl⟩ : Mem).at i = bl[i]? := fun i => by
      show look (memOf 0 bl) i = _
      rw [look_memOf, if_pos (Nat.zero_le _)]; rfl
    have hR : Rep (plX pl) ⟨bl.length, memOf 0 bl⟩ w := by
      refine ⟨fun i b hb => ?_, fun i b hb => ?_, fun i j b c p q hb hc' hp hq hpq => ?_, fun i p hi => absurd hi (by rw [hpin]; exact Nat.not_lt_zero i), by rw [hpin]; exact Nat.zero_le _, ⟨hKw, hBw, fun i p _ hp => ?_⟩⟩
      · rw [hat] at hb
        exact (List.getElem?_eq_some_iff.1 hb).1
      · rw [hat] at hb
        exact hbl i b hb
      · obtain ⟨hi, hpi⟩ := List.getElem?_eq_some_iff.1 (show pl[i]? = some p from hp)
        obtain ⟨hj, hqj⟩ := List.getElem?_eq_some_iff.1 (show pl[j]? = some q from hq)
        have hh := List.pairwise_iff_getElem.1 hnd
        have e1 : (pl.map (·.1))[i]'(by simpa using hi) = p.1 := by simp [hpi]
        have e2 : (pl.map (·.1))[j]'(by simpa using hj) = q.1 := by simp [hqj]
        refine Classical.byContradiction fun hij => ?_
        rcases Nat.lt_or_gt_of_ne hij with hlt | hlt
        · exact hh i j (by simpa using hi) (by simpa using hj) hlt (e1.trans (hpq.trans e2.symm))
        · exact hh j i (by simpa using hj) (by simpa using hi) hlt (e2.trans (hpq.symm.trans e1.symm))
      · exact hpl p (List.mem_of_getElem? hp)
    refine hc1 0 f _ _ _ _ hev (plX pl) w xs hx hR ⟨by rw [hpin]; exact Nat.le_refl _, Nat.zero_le _⟩ (fun i hi _ => List.getElem?_eq_none (by rw [hl]; exact hi)) _ (fun e' w' u' hu' hp => ?_)
    refine ⟨⟨hp.os, hp.tape, hp.output, hp.size, fun b hb hn => hp.kept b hb fun i c p hc' hpp hpb => ?_⟩, e', ⟨u', hu', rfl⟩, fun j i b hi hb => ?_⟩
    · exact hn (List.mem_map.2 ⟨p, List.mem_of_getElem? (show pl[i]? = some p from hpp), hpb⟩)
    · have hM : M'.at i = some b := by
        rw [List.getElem?_map, hi] at hb
        simpa using hb
      obtain ⟨p, hp1, hB1⟩ := hp.rep.blk i b hM
      refine ⟨p, hp1, hB1, ?_⟩
      by_cases hi' : bl.length ≤ i
      · rcases hp.fresh i b p hi' hM hp1 with hf | ⟨j', d, q, _, hd, hq, hqp⟩
        · exact .inl hf
        · exact .inr ⟨q, List.mem_of_getElem? (show pl[j']? = some q from hq), hqp⟩
      · have := hp.env i (.inl (by simpa using Nat.lt_of_not_le hi'))
        rw [hp1] at this
        exact .inr ⟨p, List.mem_of_getElem? (show pl[i]? = some p from this.symm), rfl⟩
  · cases h
end Go.Ev
