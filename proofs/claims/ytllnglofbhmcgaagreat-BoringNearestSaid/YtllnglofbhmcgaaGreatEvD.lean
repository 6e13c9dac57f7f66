/- A closed call is worked out by a program of its own: append, make, and what a literal of a slice makes. -/
import Derived.Test.YtllnglofbhmcgaaGreatEvC
namespace Go.Ev

/-! ### New rows -/
def cellsOfRange (z : Array Value) (n : Nat) : List Value := (List.range n).map fun i => z[i % z.size]!

theorem madeCells_list (z : Array Value) (n : Nat) : (madeCells z n).toList = cellsOfRange z n := by
  simp [madeCells, cellsOfRange]

def evalMake (P : Program) (M : Mem) (t : TypeId) (l c : Value) : Option (CV × Mem) :=
  match l, c, P.underlying t with
  | .int _ l, .int _ c, some (.slice elem) =>
    match P.info? elem with
    | none => none
    | some inf =>
      match inf.zero with
      | none => none
      | some z =>
        cond (decide (0 ≤ l) && decide (l ≤ c) && decide ((inf.bytes : Int) * c ≤ 281474976710656) && decide (c ≤ 9223372036854775807))
          (some (.sl M.next 0 l.toNat (some c.toNat) 0, M.push ⟨(cellsOfRange z.cells (c.toNat * inf.size)).map .clo, elem, none⟩)) none
  | _, _, _ => none

theorem evalMake_run [Ctxt] {P : Program} {M M' : Mem} {t : TypeId} {l c : Value} {v : CV} (h : evalMake P M t l c = some (v, M')) {lim : Nat} {e : Env} {w : World} (hR : Rep e M w) (hl : Ctxt.pin ≤ lim ∧ lim ≤ M.next) (hn : M.next < M'.next → e M.next = none) :
    ∃ e' w' u, den e' v = some u ∧ (Instr.makeSlice t l c).run P w = .ok u w' ∧ Post lim e M w e' M' w' := by
  unfold evalMake at h
  split at h
  · rename_i kl l kc c elem hu
    split at h
    · cases h
    · rename_i inf hi
      split at h
      · cases h
      · rename_i z hz
        cases hc : (decide (0 ≤ l) && decide (l ≤ c) && decide ((inf.bytes : Int) * c ≤ 281474976710656) && decide (c ≤ 9223372036854775807)) with
        | false => rw [hc] at h; cases h
        | true =>
          rw [hc] at h; simp at h
          obtain ⟨rfl, rfl⟩ := h
          simp only [Bool.and_eq_true, decide_eq_true_eq] at hc
          obtain ⟨⟨⟨c1, c2⟩, c3⟩, c4⟩ := hc
          have hr := run_make (P := P) w t elem inf z hu hi hz kl kc l c c1 c2 c3 c4
          have hml := madeCells_list z.cells (c.toNat * inf.size)
          refine ⟨_, _, _, ?_, hr, post_new hR hl (hn (by simp [Mem.push])) ⟨_, elem, none⟩ (cellsOfRange z.cells (c.toNat * inf.size)) (denL_clo e _) (madeCells z.cells (c.toNat * inf.size)) 0 ?_ ?_ rfl rfl rfl rfl⟩
          · simp [den, Env.upd]
          · rw [hml, List.take_length]
          · have := congrArg List.length hml
            simpa using this
  · cases h

def evalBuildSlice (P : Program) (M : Mem) (t : TypeId) (len : Nat) (parts : List (Nat × Value)) : Option (CV × Mem) :=
  match P.underlying t with
  | some (.slice elem) =>
    match P.info? elem with
    | none => none
    | some inf =>
      match inf.zero with
      | none => none
      | some z =>
        cond (Nat.ble (len * inf.size) 16777216)
          (match Instr.fill (fun i => some (i * inf.size, inf.size)) ((Array.range (len * inf.size)).map (z.cells[· % z.cells.size]!)) parts with
          | none => none
          | some cells => some (.sl M.next 0 len (some len) 0, M.push ⟨cells.toList.map .clo, elem, none⟩)) none
  | _ => none

theorem evalBuildSlice_run [Ctxt] {P : Program} {M M' : Mem} {t : TypeId} {len : Nat} {parts : Array (Nat × Value)} {v : CV} (h : evalBuildSlice P M t len parts.toList = some (v, M')) {lim : Nat} {e : Env} {w : World} (hR : Rep e M w) (hl : Ctxt.pin ≤ lim ∧ lim ≤ M.next) (hn : M.next < M'.next → e M.next = none) :
    ∃ e' w' u, den e' v = some u ∧ (Instr.buildSlice t len parts).run P w = .ok u w' ∧ Post lim e M w e' M' w' := by
  unfold evalBuildSlice at h
  split at h
  · rename_i elem hu
    split at h
    · cases h
    · rename_i inf hi
      split at h
      · cases h
      · rename_i z hz
        cases hc : Nat.ble (len * inf.size) 16777216 with
        | false => rw [hc] at h; cases h
        | true =>
          rw [hc] at h; simp only [cond_true] at h
          have c1 := Nat.le_of_ble_eq_true hc
          split at h
          · cases h
          · rename_i cells hf
            simp at h
            obtain ⟨rfl, rfl⟩ := h
            refine ⟨_, _, .slice (some ⟨w.heap.size, 0, none⟩) len len, ?_, ?_, post_new hR hl (hn (by simp [Mem.push])) ⟨_, elem, none⟩ cells.toList (denL_clo e _) cells 0 (by rw [List.take_length]) (by simp) rfl rfl rfl rfl⟩
            · simp [den, Env.upd]
            · have c1' : ¬ (16777216 < len * inf.size) := by omega
              by_cases c2' : len * inf.size = 0
              · have hf' := hf
                simp only [c2', Array.range_zero', Array.map_empty] at hf'
                simp [Instr.buildSlice, run_underlying hu, sizeOf, typeInfo, hi, c2', Array.range_zero', hf', newRow]
              · simp [Instr.buildSlice, run_underlying hu, sizeOf, typeInfo, hi, zeroValue, hz, c1', c2', hf, newRow]
  · cases h

/-! ### A literal of a slice whose elements stand in their order -/
def fillC (size : Nat) : Nat → List (Nat × CV) → Option (List CV)
  | _, [] => some []
  | j, x :: r => cond (Nat.beq x.1 j && Nat.beq x.2.cells.length size) (match fillC size (j + 1) r with | some l => some (x.2.cells ++ l) | none => none) none

theorem foldl_set (off : Nat) : ∀ (vs : List Value) (j : Nat) (c : Array Value), off + j + vs.length ≤ c.size →
    ((vs.zipIdx j).foldl (fun cs (x, k) => cs.setIfInBounds (off + k) x) c).toList = c.toList.take (off + j) ++ vs ++ c.toList.drop (off + j + vs.length)
  | [], j, c, h => by simp
  | v :: r, j, c, h => by
    simp only [List.length_cons] at h
    rw [List.zipIdx_cons, List.foldl_cons, foldl_set off r (j + 1) _ (by simp; omega)]
    apply List.ext_getElem?
    intro i
    simp only [Array.toList_setIfInBounds, List.getElem?_append, List.getElem?_take, List.getElem?_drop, List.length_append, List.length_take, List.length_set, List.length_cons, List.getElem?_set, Array.length_toList, List.getElem?_cons]
    repeat' split
    all_goals first | rfl | omega | (congr 1; omega) | skip

theorem fill_seq [Ctxt] (size n : Nat) : ∀ (l : List (Nat × Value)) (j : Nat) (c : Array Value), c.size = n * size → (∀ k x, l[k]? = some x → x.1 = j + k ∧ x.2.cells.size = size) → j + l.length ≤ n →
    ∃ c', Instr.fill (fun i => some (i * size, size)) c l = some c' ∧ c'.toList = c.toList.take (j * size) ++ (l.flatMap fun x => x.2.cells.toList) ++ c.toList.drop ((j + l.length) * size)
  | [], j, c, hc, _, _ => ⟨c, rfl, by simp⟩
  | x :: r, j, c, hc, h, hj => by
    obtain ⟨h1, h2⟩ := h 0 x (by simp)
    simp only [List.length_cons] at hj
    have hle : (j + 1) * size ≤ n * size := Nat.mul_le_mul_right _ (by omega)
    have hjs : (j + 1) * size = j * size + size := Nat.succ_mul _ _
    have hset := foldl_set (j * size) x.2.cells.toList 0 c (by simp; omega)
    simp only [Nat.add_zero] at hset h1
    have hz : x.2.cells.zipIdx.toList = x.2.cells.toList.zipIdx := by simp
    have hsz : (x.2.cells.zipIdx.foldl (fun cs (y, k) => cs.setIfInBounds (j * size + k) y) c).toList = c.toList.take (j * size) ++ x.2.cells.toList ++ c.toList.drop (j * size + x.2.cells.toList.length) := by
      rw [← Array.foldl_toList, hz]; exact hset
    have hsize : (x.2.cells.zipIdx.foldl (fun cs (y, k) => cs.setIfInBounds (j * size + k) y) c).size = n * size := by
      rw [← Array.length_toList, hsz]
      simp only [List.length_append, List.length_take, List.length_drop, Array.length_toList]
      omega
    obtain ⟨c', g1, g2⟩ := fill_seq size n r (j + 1) _ hsize (fun k y hy => by have := h (k + 1) y (by simpa using hy); omega) (by omega)
    refine ⟨c', ?_, ?_⟩
    · obtain ⟨xi, xv⟩ := x
      simp only at h1 h2 g1
      subst h1
      simp only [Instr.fill, h2]
      rw [if_neg (by simp; omega)]
      exact g1
    · rw [g2, hsz, List.flatMap_cons]
      have hl : x.2.cells.toList.length = size := by simpa using h2
      rw [hl, hjs]
      have hlen : (c.toList.take (j * size) ++ x.2.cells.toList).length = j * size + size := by simp; omega
      rw [List.take_append_of_le_length (by omega), List.take_of_length_le (by omega), List.drop_append, List.drop_of_length_le (by rw [hlen]; have : (j + 1 + r.length) * size = j * size + size + r.length * size := (by rw [Nat.add_mul, hjs]); omega), hlen, List.drop_drop]
      simp only [List.nil_append, List.append_assoc, List.length_cons]
      congr 4
      have e1 : (j + 1 + r.length) * size = j * size + size + r.length * size := by rw [Nat.add_mul, hjs]
      have e2 : (j + (r.length + 1)) * size = j * size + size + r.length * size := by rw [show j + (r.length + 1) = j + 1 + r.length by omega, e1]
      omega

def evalBuildC (P : Program) (M : Mem) (t : TypeId) (len : Nat) (parts : List (Nat × CV)) : Option (CV × Mem) :=
  match P.underlying t with
  | some (.slice elem) =>
    match P.info? elem with
    | none => none
    | some inf =>
      match inf.zero with
      | none => none
      | some _ =>
        cond (Nat.ble (len * inf.size) 16777216 && Nat.blt 0 (len * inf.size) && Nat.beq parts.length len)
          (match fillC inf.size 0 parts with
          | none => none
          | some l => some (.sl M.next 0 len (some len) 0, M.push ⟨l, elem, none⟩)) none
  | _ => none

theorem fillC_den [Ctxt] {e : Env} (size : Nat) : ∀ (l : List (Nat × CV)) (vs : List (Nat × Value)) (j : Nat) (r : List CV), fillC size j l = some r → l.map (·.1) = vs.map (·.1) → denL e (l.map (·.2)) = some (vs.map (·.2)) →
    denL e r = some (vs.flatMap fun x => x.2.cells.toList) ∧ ∀ k x, vs[k]? = some x → x.1 = j + k ∧ x.2.cells.size = size
  | [], vs, j, r, h, h1, h2 => by
    cases vs with
    | nil => simp [fillC] at h; subst h; simp [denL]
    | cons y s => simp at h1
  | x :: l, vs, j, r, h, h1, h2 => by
    cases vs with
    | nil => simp at h1
    | cons y s =>
      simp only [List.map_cons, List.cons.injEq] at h1
      obtain ⟨u, us, hu, hd, hds⟩ := denL_cons (by simpa using h2)
      simp only [List.cons.injEq] at hu
      obtain ⟨rfl, rfl⟩ := hu
      simp only [fillC] at h
      cases hc : (Nat.beq x.1 j && Nat.beq x.2.cells.length size) with
      | false => rw [hc] at h; cases h
      | true =>
        rw [hc] at h
        simp only [cond_true] at h
        simp only [Bool.and_eq_true] at hc
        have c1 := Nat.eq_of_beq_eq_true hc.1
        have c2 := Nat.eq_of_beq_eq_true hc.2
        split at h
        · rename_i l' hl'
          simp at h; subst h
          obtain ⟨i1, i2⟩ := fillC_den size l s (j + 1) l' hl' h1.2 hds
          have hcells := den_cells hd
          refine ⟨by rw [List.flatMap_cons]; exact denL_append hcells i1, fun k z hz => ?_⟩
          cases k with
          | zero =>
            simp at hz; subst hz
            have := denL_length hcells
            simp at this
            exact ⟨by rw [← h1.1, c1]; rfl, by omega⟩
          | succ k =>
            have := i2 k z (by simpa using hz)
            omega
        · cases h

theorem evalBuildC_run [Ctxt] {P : Program} {M M' : Mem} {t : TypeId} {len : Nat} {parts : List (Nat × CV)} {vs : Array (Nat × Value)} {v : CV} (h : evalBuildC P M t len parts = some (v, M')) {lim : Nat} {e : Env} {w : World} (hR : Rep e M w) (hl : Ctxt.pin ≤ lim ∧ lim ≤ M.next) (hn : M.next < M'.next → e M.next = none)
    (h1 : parts.map (·.1) = vs.toList.map (·.1)) (h2 : denL e (parts.map (·.2)) = some (vs.toList.map (·.2))) :
    ∃ e' w' u, den e' v = some u ∧ (Instr.buildSlice t len vs).run P w = .ok u w' ∧ Post lim e M w e' M' w' := by
  unfold evalBuildC at h
  split at h
  · rename_i elem hu
    split at h
    · cases h
    · rename_i inf hi
      split at h
      · cases h
      · rename_i z hz
        cases hc : (Nat.ble (len * inf.size) 16777216 && Nat.blt 0 (len * inf.size) && Nat.beq parts.length len) with
        | false => rw [hc] at h; cases h
        | true =>
          rw [hc] at h; simp only [cond_true] at h
          simp only [Bool.and_eq_true] at hc
          have c1 := Nat.le_of_ble_eq_true hc.1.1
          have c2 : 0 < len * inf.size := Nat.le_of_ble_eq_true hc.1.2
          have c3 := Nat.eq_of_beq_eq_true hc.2
          split at h
          · cases h
          · rename_i l hf
            simp at h
            obtain ⟨rfl, rfl⟩ := h
            obtain ⟨d1, d2⟩ := fillC_den inf.size parts vs.toList 0 l hf h1 h2
            have hlen : vs.toList.length = len := by
              have := congrArg List.length h1
              simp at this; simp; omega
            obtain ⟨c', g1, g2⟩ := fill_seq inf.size len vs.toList 0 ((Array.range (len * inf.size)).map (z.cells[· % z.cells.size]!)) (by simp) d2 (by omega)
            have g3 : c'.toList = vs.toList.flatMap fun x => x.2.cells.toList := by
              rw [g2]; simp [← hlen]
            refine ⟨_, _, .slice (some ⟨w.heap.size, 0, none⟩) len len, ?_, ?_, post_new hR hl (hn (by simp [Mem.push])) ⟨l, elem, none⟩ c'.toList (by rw [g3]; exact d1) c' 0 (by rw [List.take_length]) (by simp) rfl rfl rfl rfl⟩
            · simp [den, Env.upd]
            · have c1' : ¬ (16777216 < len * inf.size) := by omega
              have c2' : len * inf.size ≠ 0 := by omega
              simp [Instr.buildSlice, run_underlying hu, sizeOf, typeInfo, hi, zeroValue, hz, c1', c2', g1, newRow]
  · cases h

/-! ### append -/
/-- A row with room of its own, known by a new name: it lies where the old one lay. -/
theorem post_renameB [Ctxt] {lim : Nat} {e : Env} {M : Mem} {w w' : World} (h : Rep e M w) {i : Nat} (hpi : Ctxt.pin ≤ lim) (hl : lim ≤ i) {b : Blk} (hb : M.at i = some b) {p : Nat × Nat} (hp : e i = some p) (hn : e M.next = none)
    (b' : Blk) (hB0 : Env.le e (e.upd M.next p) → RepB (e.upd M.next p) b' p w')
    (hs : w'.heap.size = w.heap.size) (hk : ∀ k, k ≠ p.1 → w'.heap[k]? = w.heap[k]?)
    (h1 : w'.os = w.os) (h2 : w'.tape = w.tape) (h3 : w'.output = w.output) :
    Post lim e M w (e.upd M.next p) ((M.keep fun j => !Nat.beq j i).push b') w' := by
  have hlt := h.wf i b hb
  have hle := Env.upd_le (p := p) hn
  have hat : ∀ j, ((M.keep fun j => !Nat.beq j i).push b').at j = if j = M.next then some b' else if j = i then none else M.at j := fun j => by
    rw [Mem.at_push, Mem.at_keep]
    rcases beq_cases j i with ⟨h1, h2⟩ | ⟨h1, h2⟩ <;> simp [Mem.keep, h1, h2]
  have split : ∀ j c, ((M.keep fun j => !Nat.beq j i).push b').at j = some c → (j = M.next ∧ c = b') ∨ (j ≠ M.next ∧ j ≠ i ∧ M.at j = some c) := fun j c hj => by
    rw [hat] at hj
    split at hj
    · rename_i h; exact .inl ⟨h, by cases hj; rfl⟩
    · split at hj
      · cases hj
      · rename_i h1 h2; exact .inr ⟨h1, h2, hj⟩
  refine ⟨fun j hj => ?_, hle, by simp [Mem.push, Mem.keep], fun j hj => ?_, ⟨fun j c hc => ?_, fun j d hd => ?_, fun j k c d q r hc hd hq hr' hqr => ?_, fun j q hj hq => ?_, by have := h.pinN; simp only [Mem.push, Mem.keep]; omega, ⟨Ctxt.kst w w' h.rest.k ⟨h1, h2, h3, by omega, fun k hk' => hk k (fun e' => by have := h.rest.new i p (by omega) hp; omega)⟩, by have := h.rest.size; omega, fun j q hj hq => ?_⟩⟩, by omega, fun k hk' hn' => hk k (fun e' => hn' i b p hb hp e'.symm), fun j c q hj hc hq => ?_, fun j c hj hc => ?_, h1, h2, h3⟩
  · simp only [Env.upd, Mem.push, Mem.keep] at hj ⊢
    rw [if_neg (by omega)]
  · rw [hat, if_neg (by omega), if_neg (by omega)]
  · rcases split j c hc with ⟨rfl, _⟩ | ⟨_, _, hj⟩
    · simp [Mem.push, Mem.keep]
    · have := h.wf j c hj; simp [Mem.push, Mem.keep]; omega
  · rcases split j d hd with ⟨rfl, rfl⟩ | ⟨hj1, hj2, hj⟩
    · exact ⟨p, by simp [Env.upd], hB0 hle⟩
    · obtain ⟨q, hq, hB⟩ := h.blk j d hj
      exact ⟨q, hle j q hq, hB.mono hle (hk _ (fun e' => hj2 (h.inj j i d b q p hj hb hq hp e')))⟩
  · rcases split j c hc with ⟨rfl, rfl⟩ | ⟨hj1, hj2, hj⟩
    · rcases split k d hd with ⟨rfl, rfl⟩ | ⟨hk1, hk2, hk'⟩
      · rfl
      · simp [Env.upd] at hq
        simp only [Env.upd, if_neg hk1] at hr'
        subst hq
        exact absurd (h.inj k i d b r p hk' hb hr' hp hqr.symm) hk2
    · rcases split k d hd with ⟨rfl, rfl⟩ | ⟨hk1, hk2, hk'⟩
      · simp [Env.upd] at hr'
        simp only [Env.upd, if_neg hj1] at hq
        subst hr'
        exact absurd (h.inj j i c b q p hj hb hq hp hqr) hj2
      · simp only [Env.upd, if_neg hj1] at hq
        simp only [Env.upd, if_neg hk1] at hr'
        exact h.inj j k c d q r hj hk' hq hr' hqr
  · have := h.pinN
    simp only [Env.upd] at hq
    rw [if_neg (by omega)] at hq
    exact h.pin j q hj hq
  · simp only [Env.upd] at hq
    split at hq
    · cases hq; exact h.rest.new i p (by omega) hp
    · exact h.rest.new j q hj hq
  · rcases split j c hc with ⟨rfl, rfl⟩ | ⟨hj1, hj2, hj'⟩
    · simp [Env.upd] at hq
      subst hq
      exact .inr ⟨i, b, p, hl, hb, hp, rfl⟩
    · exact absurd (h.wf j c hj') (by omega)
  · rcases split j c hc with ⟨rfl, rfl⟩ | ⟨hj1, hj2, hj'⟩
    · exact absurd hj (Nat.lt_irrefl _)
    · exact ⟨c, hj'⟩
theorem post_rename [Ctxt] {lim : Nat} {e : Env} {M : Mem} {w w' : World} (h : Rep e M w) {i : Nat} (hpi : Ctxt.pin ≤ lim) (hl : lim ≤ i) {b : Blk} (hb : M.at i = some b) {p : Nat × Nat} (hp : e i = some p) (hn : e M.next = none)
    (b' : Blk) (vs : List Value) (hv : denL e b'.cs = some vs) (c : Array Value) (hc : c.toList.take vs.length = vs) (hh : w'.heap[p.1]? = some (.cells c b'.ty (0, 0)))
    (hr : match b'.row with | none => c.size = vs.length | some z => z ≠ 0 → c.size = p.2 * z ∧ p.2 ≤ maxLen)
    (hs : w'.heap.size = w.heap.size) (hk : ∀ k, k ≠ p.1 → w'.heap[k]? = w.heap[k]?)
    (h1 : w'.os = w.os) (h2 : w'.tape = w.tape) (h3 : w'.output = w.output) :
    Post lim e M w (e.upd M.next p) ((M.keep fun j => !Nat.beq j i).push b') w' :=
  post_renameB h hpi hl hb hp hn b' (fun hle => .of c vs hh (denL_mono hle _ _ hv) hc hr) hs hk h1 h2 h3

theorem RepC.rangeC [Ctxt] {e : Env} {b : Blk} {p : Nat × Nat} {w : World} (h : RepC e b p w) (off n : Nat) (hn : ((b.cs.drop off).take n).length = n) :
    ∃ xs, denL e ((b.cs.drop off).take n) = some xs ∧ xs.length = n ∧ ∀ j v, xs[j]? = some v → w.cell? ((⟨p.1, off, none⟩ : Addr).add j) = some v := by
  obtain ⟨xs, h1, h2, h3⟩ := h.range off n hn
  exact ⟨xs, h1, h2, fun j v hv => by rw [Addr.add_mid]; exact h3 j v hv⟩

theorem grown_size (z : Value) (size need cap : Nat) (hz : z.cells.size = size) (xs : List Value) (hx : xs.length = need * size) (hc : need ≤ cap) :
    (xs.toArray ++ Builtin.zeroCells z.cells (cap - need)).size = cap * size := by
  simp only [Array.size_append, List.size_toArray, size_zeroCells, hz, hx, ← Nat.add_mul]
  congr 1
  omega

/-- The cells of a slice that are to be appended. -/
noncomputable def evalRange (M : Mem) (i off n : Nat) : Option (List CV) :=
  match M.at i with
  | none => none
  | some b => cond (isSp b.cs) none (let l := (b.cs.drop off).take n; cond (Nat.beq l.length n) (some l) none)

theorem evalRange_run [Ctxt] {M : Mem} {i off n : Nat} {l : List CV} (h : evalRange M i off n = some l) {e : Env} {w : World} (hR : Rep e M w) {p : Nat × Nat} (hp : e i = some p) :
    ∃ xs, denL e l = some xs ∧ xs.length = n ∧ ∀ j v, xs[j]? = some v → w.cell? ((⟨p.1, off, none⟩ : Addr).add j) = some v := by
  unfold evalRange at h
  split at h
  · cases h
  · rename_i b hb
    cases hsp : isSp b.cs with
    | true => rw [hsp] at h; cases h
    | false =>
    rw [hsp] at h
    simp only [cond_false] at h
    rcases beq_cases ((b.cs.drop off).take n).length n with ⟨h1, h2⟩ | ⟨h1, h2⟩
    · rw [h1] at h; simp at h; subst h
      obtain ⟨q, hq, hB⟩ := hR.blk i b hb
      rw [hp] at hq; cases hq
      exact (hB.ofSp hsp).rangeC off n h2
    · rw [h1] at h; cases h

section
variable {P : Program}
theorem run_app_nil (w : World) (t u ty e : TypeId) (i : TypeInfo) (z : Value) (ht : P.underlying t = some (.slice e)) (hu : P.underlying u = some (.slice e) ∨ P.underlying u = some .string) (hi : P.info? e = some i) (hz : i.zero = some z)
    (sv : Value) (n : Nat) (news : List Value) (hlen : (Builtin.lenOf sv).run P w = .ok n w) (hf : (Builtin.firstCells i.size n sv).run P w.drew = .ok news.toArray w.drew)
    (h0 : 0 < n) (h63 : (n : Int) ≤ 9223372036854775807) (h48 : n * i.bytes ≤ 281474976710656) :
    (Builtin.append_ #[t, u] ty #[.slice none 0 0, sv]).run P w =
      .ok (.slice (some ⟨w.heap.size, 0, none⟩) n (grownCap w n 0 e)) (w.drew.alloc (.cells (news.toArray ++ Builtin.zeroCells z.cells (grownCap w n 0 e - n)) e)) := by
  have hn : n ≠ 0 := by omega
  have h63' : ¬ (9223372036854775807 < (n : Int)) := by omega
  have h48' : ¬ (281474976710656 < Builtin.nextslicecap n 0 * i.bytes) := by rw [nextslicecap_zero h0]; omega
  rcases hu with hu | hu <;> simp [Builtin.append_, run_underlying ht, run_underlying hu, sizeOf, typeInfo, zeroValue, hi, hz, hlen, hn, h63', h48', Question.forced, run_firstCells_none, hf, newRow, grownCap]
theorem run_app_grow (w : World) (t u ty e : TypeId) (i : TypeInfo) (z : Value) (ht : P.underlying t = some (.slice e)) (hu : P.underlying u = some (.slice e) ∨ P.underlying u = some .string) (hi : P.info? e = some i) (hz : i.zero = some z)
    (b : Addr) (sLen sCap : Nat) (olds : List Value) (hlo : olds.length = sLen * i.size) (holds : ∀ j v, olds[j]? = some v → w.cell? (b.add j) = some v)
    (sv : Value) (n : Nat) (news : List Value) (hlen : (Builtin.lenOf sv).run P w = .ok n w) (hf : (Builtin.firstCells i.size n sv).run P w.drew = .ok news.toArray w.drew)
    (hg : sCap < sLen + n) (h63 : ((sLen + n : Nat) : Int) ≤ 9223372036854775807) (hfit : Builtin.nextslicecap (sLen + n) sCap * i.bytes ≤ 281474976710656) :
    (Builtin.append_ #[t, u] ty #[.slice (some b) sLen sCap, sv]).run P w =
      .ok (.slice (some ⟨w.heap.size, 0, none⟩) (sLen + n) (grownCap w (sLen + n) sCap e))
        (w.drew.alloc (.cells (olds.toArray ++ news.toArray ++ Builtin.zeroCells z.cells (grownCap w (sLen + n) sCap e - (sLen + n))) e)) := by
  have hn : ¬ (sLen + n ≤ sCap) := by omega
  have h63' : ¬ (9223372036854775807 < ((sLen : Int) + (n : Int))) := by omega
  have h48' : ¬ (281474976710656 < Builtin.nextslicecap (sLen + n) sCap * i.bytes) := by omega
  have hfo := run_firstCells_some (P := P) w.drew i.size sLen b sLen sCap olds hlo (by simpa using holds)
  rcases hu with hu | hu <;>
    (simp [Builtin.append_, run_underlying ht, run_underlying hu, sizeOf, typeInfo, zeroValue, hi, hz, hlen, hn, h63', h48', Question.forced, hf, hfo, newRow, grownCap]
     congr 2
     apply Array.ext'
     simp [List.append_assoc])
theorem run_app_room (w : World) (t u ty e : TypeId) (i : TypeInfo) (ht : P.underlying t = some (.slice e)) (hu : P.underlying u = some (.slice e) ∨ P.underlying u = some .string) (hi : P.info? e = some i)
    (g sLen sCap : Nat) (cur : Array Value) (hg : w.heap[g]? = some (.cells cur e (0, 0)))
    (sv : Value) (m : Nat) (news : List Value) (hlen : (Builtin.lenOf sv).run P w = .ok m w) (hf : (Builtin.firstCells i.size m sv).run P w = .ok news.toArray w) (h1 : ∀ u ∈ news, u.oneCell' = true)
    (hroom : sLen + m ≤ sCap) (hfit : sLen * i.size + news.length ≤ cur.size) :
    (Builtin.append_ #[t, u] ty #[.slice (some ⟨g, 0, none⟩) sLen sCap, sv]).run P w =
      .ok (.slice (some ⟨g, 0, none⟩) (sLen + m) sCap) (w.setRow g (cur.toList.take (sLen * i.size) ++ news ++ cur.toList.drop (sLen * i.size + news.length)).toArray) := by
  have hst := run_storeCells_at P g (sLen * i.size) e news 0 cur w hg (by simpa using hfit) h1
  simp only [Nat.add_zero] at hst
  rcases hu with hu | hu <;> simp [Builtin.append_, run_underlying ht, run_underlying hu, sizeOf, typeInfo, hi, hlen, hroom, hf, Addr.add_lit, hst]
end

/-- append of `m > 0` elements to `s`; `src` has their cells. -/
noncomputable def evalAppend (P : Program) (lim : Nat) (M : Mem) (t : TypeId) (s : CV) (src : Nat → Option (List CV)) (m : Nat) : Option (CV × Mem) :=
  match P.underlying t with
  | some (.slice elem) =>
    match P.info? elem with
    | none => none
    | some inf =>
      match inf.zero with
      | none => none
      | some z =>
        match src (m * inf.size) with
        | none => none
        | some news =>
          cond (Nat.beq z.cells.size inf.size && Nat.blt 0 inf.size && Nat.blt 0 m && news.all oneCellC)
            (match s with
            | .clo (.slice none 0 0) =>
              cond (Nat.ble (m * inf.bytes) 140737488355328 && Nat.ble m maxLen) (some (.sl M.next 0 m none 0, M.push ⟨news, elem, some inf.size⟩)) none
            | .sl i off n cap sub =>
              match evalRange M i off (n * inf.size) with
              | none => none
              | some olds =>
                cond (Nat.ble ((n + m) * inf.bytes) 140737488355328 && Nat.ble (n + m) maxLen)
                  (match cap with
                  | some c =>
                    cond (Nat.ble (n + m) c)
                      (match M.at i with
                      | none => none
                      | some b => cond (Nat.ble lim i && Nat.beq b.ty elem && Nat.beq off 0 && Nat.ble ((n + m) * inf.size) b.cs.length && rowOK b.row)
                        (some (.sl i 0 (n + m) (some c) 0, M.set i ⟨b.cs.take (n * inf.size) ++ news ++ b.cs.drop (n * inf.size + news.length), b.ty, b.row⟩)) none)
                      (some (.sl M.next 0 (n + m) none 0, M.push ⟨olds ++ news, elem, some inf.size⟩))
                  | none =>
                    match M.at i with
                    | none => none
                    | some b =>
                      match b.row with
                      | none => none
                      | some z => cond (Nat.ble lim i && Nat.beq b.ty elem && Nat.beq off 0 && Nat.beq sub 0 && Nat.beq z inf.size)
                        (some (.sl M.next 0 (n + m) none 0, (M.keep fun k => !Nat.beq k i).push ⟨olds ++ news, elem, some inf.size⟩)) none)
                  none
            | _ => none) none
  | _ => none

theorem keep_next (M : Mem) (f : Nat → Bool) : (M.keep f).next = M.next := rfl

/-- A row that has grown into a new block. -/
theorem post_grown [Ctxt] {lim : Nat} {e : Env} {M : Mem} {w : World} (h : Rep e M w) (hl : Ctxt.pin ≤ lim ∧ lim ≤ M.next) (hn : e M.next = none) (elem : TypeId) (size : Nat) (z : Value) (hz : z.cells.size = size)
    (l : List CV) (xs : List Value) (hx : denL e l = some xs) (need cap : Nat) (hlen : xs.length = need * size) (hc : need ≤ cap) (hm : cap ≤ maxLen) :
    Post lim e M w (e.upd M.next (w.heap.size, cap)) (M.push ⟨l, elem, some size⟩) (w.drew.alloc (.cells (xs.toArray ++ Builtin.zeroCells z.cells (cap - need)) elem)) :=
  post_new (w1 := w.drew) h hl hn ⟨l, elem, some size⟩ xs hx _ cap (by simp) ⟨grown_size z size need cap hz xs hlen hc, hm⟩ rfl rfl rfl rfl

theorem evalAppend_run [Ctxt] {P : Program} {lim : Nat} {M M' : Mem} {t : TypeId} {s : CV} {src : Nat → Option (List CV)} {m : Nat} {v : CV} (h : evalAppend P lim M t s src m = some (v, M')) {e : Env} {w : World} (hR : Rep e M w) (hl : Ctxt.pin ≤ lim ∧ lim ≤ M.next) (hn : M.next < M'.next → e M.next = none)
    {sv : Value} (hs : den e s = some sv) (tx : TypeId) (hu2 : P.underlying tx = P.underlying t ∨ P.underlying tx = some .string) (xv : Value) (hlenX : (Builtin.lenOf xv).run P w = .ok m w)
    (hsrc : ∀ size l, src (m * size) = some l → ∃ ys, denL e l = some ys ∧ ys.length = m * size ∧ (Builtin.firstCells size m xv).run P w = .ok ys.toArray w ∧ (Builtin.firstCells size m xv).run P w.drew = .ok ys.toArray w.drew) (ty : TypeId) :
    ∃ e' w' u, den e' v = some u ∧ (Builtin.append_ #[t, tx] ty #[sv, xv]).run P w = .ok u w' ∧ Post lim e M w e' M' w' := by
  unfold evalAppend at h
  split at h
  · rename_i elem hu
    split at h
    · cases h
    · rename_i inf hi
      split at h
      · cases h
      · rename_i z hz
        split at h
        · cases h
        · rename_i news hnews
          cases hc : (Nat.beq z.cells.size inf.size && Nat.blt 0 inf.size && Nat.blt 0 m && news.all oneCellC) with
          | false => simp only [hc, cond_false] at h; cases h
          | true =>
            simp only [hc, cond_true] at h
            simp only [Bool.and_eq_true] at hc
            obtain ⟨⟨⟨c1, c2⟩, c3⟩, c4⟩ := hc
            have c1 := Nat.eq_of_beq_eq_true c1
            have c2 : 0 < inf.size := Nat.le_of_ble_eq_true c2
            have c3 : 0 < m := Nat.le_of_ble_eq_true c3
            obtain ⟨ys, hys, hyl, hyc, hycD⟩ := hsrc inf.size news hnews
            have hux : P.underlying tx = some (.slice elem) ∨ P.underlying tx = some .string := by rw [← hu]; exact hu2
            have hy1 := oneCellL_den c4 hys
            split at h
            · -- nil
              have := den_clo hs; subst this
              cases hd : (Nat.ble (m * inf.bytes) 140737488355328 && Nat.ble m maxLen) with
              | false => simp only [hd, cond_false] at h; cases h
              | true =>
                simp only [hd, cond_true, Option.some.injEq, Prod.mk.injEq] at h
                obtain ⟨rfl, rfl⟩ := h
                simp only [Bool.and_eq_true] at hd
                have d1 := Nat.le_of_ble_eq_true hd.1
                have d2 := Nat.le_of_ble_eq_true hd.2
                have hr := run_app_nil (P := P) w t tx ty elem inf z hu hux hi hz xv m ys hlenX hycD c3 (by simp only [maxLen] at d2; omega) (by omega)
                have hcap := grownCap_le_maxLen w m 0 elem d2
                have hge := grownCap_ge w m 0 elem
                exact ⟨_, _, _, by simp [den, Env.upd], hr, post_grown hR hl (hn (by simp [Mem.push])) elem inf.size z c1 news ys hys m _ hyl hge hcap⟩
            · rename_i i off n cap sub
              obtain ⟨p, hp, rfl⟩ := den_sl hs
              split at h
              · cases h
              · rename_i olds holds
                obtain ⟨xs, hxs, hxl, hxc⟩ := evalRange_run holds hR hp
                cases hd : (Nat.ble ((n + m) * inf.bytes) 140737488355328 && Nat.ble (n + m) maxLen) with
                | false => simp only [hd, cond_false] at h; cases h
                | true =>
                  simp only [hd, cond_true] at h
                  simp only [Bool.and_eq_true] at hd
                  have d1 := Nat.le_of_ble_eq_true hd.1
                  have d2 := Nat.le_of_ble_eq_true hd.2
                  have d3 : ((n + m : Nat) : Int) ≤ 9223372036854775807 := by simp only [maxLen] at d2; omega
                  have hall := denL_append hxs hys
                  have hmul : (n + m) * inf.size = n * inf.size + m * inf.size := Nat.add_mul _ _ _
                  have hlen : (xs ++ ys).length = (n + m) * inf.size := by rw [List.length_append, hxl, hyl, Nat.add_mul]
                  have grow : ∀ K, K < n + m → ∃ (cap' : Nat), n + m ≤ cap' ∧ cap' ≤ maxLen ∧ (Builtin.append_ #[t, tx] ty #[.slice (some ⟨p.1, off, none⟩) n K, xv]).run P w =
                      .ok (.slice (some ⟨w.heap.size, 0, none⟩) (n + m) cap') (w.drew.alloc (.cells ((xs ++ ys).toArray ++ Builtin.zeroCells z.cells (cap' - (n + m))) elem)) := fun K hK => by
                    have hr := run_app_grow (P := P) w t tx ty elem inf z hu hux hi hz ⟨p.1, off, none⟩ n K xs hxl hxc xv m ys hlenX hycD hK d3 (growslice_fits hK d1)
                    exact ⟨_, grownCap_ge w (n + m) K elem, grownCap_le_maxLen w (n + m) K elem d2, by rw [hr]; simp⟩
                  split at h
                  · rename_i cp
                    rcases Nat.lt_or_ge cp (n + m) with hlt | hge
                    · have hb : Nat.ble (n + m) cp = false := by cases hb : Nat.ble (n + m) cp with | false => rfl | true => exact absurd (Nat.le_of_ble_eq_true hb) (by omega)
                      rw [hb] at h
                      simp only [cond_false, Option.some.injEq, Prod.mk.injEq] at h
                      obtain ⟨rfl, rfl⟩ := h
                      obtain ⟨cap', g1, g2, g3⟩ := grow cp hlt
                      exact ⟨_, _, _, by simp [den, Env.upd], g3, post_grown hR hl (hn (by simp [Mem.push])) elem inf.size z c1 _ _ hall (n + m) cap' hlen g1 g2⟩
                    · rw [Nat.ble_eq_true_of_le hge] at h
                      simp only [cond_true] at h
                      split at h
                      · cases h
                      · rename_i b hb
                        cases he : (Nat.ble lim i && Nat.beq b.ty elem && Nat.beq off 0 && Nat.ble ((n + m) * inf.size) b.cs.length && rowOK b.row) with
                        | false => simp only [he, cond_false] at h; cases h
                        | true =>
                          simp only [he, cond_true, Option.some.injEq, Prod.mk.injEq] at h
                          obtain ⟨rfl, rfl⟩ := h
                          simp only [Bool.and_eq_true] at he
                          obtain ⟨⟨⟨⟨e1, e2⟩, e3⟩, e4⟩, e9⟩ := he
                          have e1 := Nat.le_of_ble_eq_true e1
                          have e2 := Nat.eq_of_beq_eq_true e2
                          have e3 := Nat.eq_of_beq_eq_true e3
                          have e4 := Nat.le_of_ble_eq_true e4
                          subst e3
                          obtain ⟨p', hp', hB⟩ := hR.blk i b hb
                          rw [hp] at hp'; cases hp'
                          have hnl := denL_length hys
                          obtain ⟨cur, vs, hcur, hvs, htk, hle, _, hrow⟩ := hB.cells0 (rowOK_ne e9)
                          have hvl := denL_length hvs
                          have hfit : n * inf.size + ys.length ≤ cur.size := by rw [hyl, ← Nat.add_mul]; omega
                          have hr := run_app_room (P := P) w t tx ty elem inf hu hux hi p.1 n cp cur (by rw [← e2]; exact hcur) xv m ys hlenX hyc hy1 hge hfit
                          refine ⟨e, _, _, by simp [den, hp], hr, post_set hR hl.1 e1 hb hp (RepB.of _ _ (setRow_heap w p.1 cur _ b.ty _ hcur) (denL_append (denL_append (denL_take (n * inf.size) hvs) hys) (denL_drop (n * inf.size + news.length) hvs)) ?_ ?_) (by simp [World.setRow]) (fun k hk => setRow_other w p.1 k _ hk) rfl rfl rfl⟩
                          · have hlen : (List.take (n * inf.size) vs ++ ys ++ List.drop (n * inf.size + news.length) vs).length = vs.length := by simp; omega
                            rw [hlen, ← hnl, take_splice cur.toList ys (n * inf.size) vs.length (by omega) (by simpa using hle), htk]
                          · have hlen : (List.take (n * inf.size) vs ++ ys ++ List.drop (n * inf.size + news.length) vs).length = vs.length := by simp; omega
                            have hlen2 : (List.take (n * inf.size) cur.toList ++ ys ++ List.drop (n * inf.size + ys.length) cur.toList).length = cur.size := by simp; omega
                            rw [hlen]
                            cases hr : b.row with
                            | none => rw [hr] at hrow; simp only [List.size_toArray, hlen2]; exact hrow
                            | some z => rw [hr] at hrow; simp only [List.size_toArray, hlen2]; exact hrow
                  · split at h
                    · cases h
                    · rename_i b hb
                      split at h
                      · cases h
                      · rename_i zz hzz
                        cases he : (Nat.ble lim i && Nat.beq b.ty elem && Nat.beq off 0 && Nat.beq sub 0 && Nat.beq zz inf.size) with
                        | false => simp only [he, cond_false] at h; cases h
                        | true =>
                          simp only [he, cond_true, Option.some.injEq, Prod.mk.injEq] at h
                          obtain ⟨rfl, rfl⟩ := h
                          simp only [Bool.and_eq_true] at he
                          obtain ⟨⟨⟨⟨e1, e2⟩, e3⟩, e5⟩, e6⟩ := he
                          have e1 := Nat.le_of_ble_eq_true e1
                          have e2 := Nat.eq_of_beq_eq_true e2
                          have e3 := Nat.eq_of_beq_eq_true e3
                          have e5 := Nat.eq_of_beq_eq_true e5
                          have e6 := Nat.eq_of_beq_eq_true e6
                          subst e3; subst e5; subst e6
                          simp only [Option.getD_none, Nat.sub_zero]
                          have hnx : e M.next = none := hn (by simp [Mem.push, Mem.keep])
                          obtain ⟨p', hp', hB⟩ := hR.blk i b hb
                          rw [hp] at hp'; cases hp'
                          rcases Nat.lt_or_ge p.2 (n + m) with hlt | hge
                          · obtain ⟨cap', g1, g2, g3⟩ := grow p.2 hlt
                            have hpost := (post_grown (lim := lim) (hR.keep fun k => !Nat.beq k i) hl hnx elem inf.size z c1 _ _ hall (n + m) cap' hlen g1 g2)
                            refine ⟨e.upd M.next (w.heap.size, cap'), _, _, by simp [den, Env.upd], g3, ?_⟩
                            have hp0 := (Post.refl (lim := lim) hR).keep (fun k => !Nat.beq k i) (fun k hk => by
                              rcases beq_cases k i with ⟨h1, h2⟩ | ⟨h1, h2⟩
                              · omega
                              · simp [h1])
                            exact hp0.trans hpost
                          · obtain ⟨cur, vs, hcur, hvs, htk, hle, _, hrow⟩ := hB.cells0 (by rw [hzz]; intro h0; simp at h0; omega)
                            rw [hzz] at hrow
                            have hrow := hrow (by omega)
                            have hfit : n * inf.size + ys.length ≤ cur.size := by rw [hyl, ← Nat.add_mul, hrow.1]; exact Nat.mul_le_mul_right _ hge
                            have hr := run_app_room (P := P) w t tx ty elem inf hu hux hi p.1 n p.2 cur (by rw [← e2]; exact hcur) xv m ys hlenX hyc hy1 hge hfit
                            have hxt : cur.toList.take (n * inf.size) = xs := by
                              apply List.ext_getElem?
                              intro k
                              rw [List.getElem?_take]
                              split
                              · rename_i hk
                                have hk' : k < xs.length := by omega
                                have h1 := hxc k xs[k] (by simp)
                                rw [Addr.add_mid] at h1
                                simp [World.cell?, hcur] at h1
                                simp [h1, hk']
                              · rw [List.getElem?_eq_none (by omega)]
                            refine ⟨_, _, _, by simp [den, Env.upd], hr, post_rename hR hl.1 e1 hb hp hnx ⟨olds ++ news, elem, some inf.size⟩ (xs ++ ys) hall _ ?_ (by rw [← e2]; exact setRow_heap w p.1 cur _ b.ty _ hcur) (fun _ => ⟨?_, hrow.2⟩) (by simp [World.setRow]) (fun k hk => setRow_other w p.1 k _ hk) rfl rfl rfl⟩
                            · rw [hxt]
                              exact List.take_left
                            · have hlen2 : (List.take (n * inf.size) cur.toList ++ ys ++ List.drop (n * inf.size + ys.length) cur.toList).length = cur.size := by simp; omega
                              simp only [List.size_toArray, hlen2]; exact hrow.1
            · cases h
  · cases h

end Go.Ev
