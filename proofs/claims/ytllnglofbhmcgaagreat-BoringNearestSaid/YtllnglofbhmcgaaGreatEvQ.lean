/- Types whose cells are integers: literals, equality, readings. -/
import Derived.Test.YtllnglofbhmcgaaGreatEvP
import Derived.ChangeArms
import Derived.Laws.StructEq
import Derived.OpenShut
namespace Go.Ev
open Go.RowKit

/-- The kinds of a row of fields that stand one behind the other. -/
def flatFs (P : Program) (g : TypeId → Option (List IntKind)) : Nat → List Field → Option (List IntKind)
  | _, [] => some []
  | off, f :: r =>
    match g f.type with
    | none => none
    | some ks =>
      match flatFs P g (off + ks.length) r with
      | none => none
      | some ks' => cond (Nat.beq f.offset off && f.name != "_" && Nat.beq (P.cellsOf f.type) ks.length) (some (ks ++ ks')) none

/-- The kinds of the cells of a type that is made of integers only. -/
def flatT (P : Program) : Nat → TypeId → Option (List IntKind)
  | 0, _ => none
  | d + 1, t =>
    match P.underlying t with
    | some (.int k) => some [k]
    | some (.array n e) =>
      match flatT P d e with
      | none => none
      | some ks => cond (Nat.beq (P.cellsOf e) ks.length && Nat.beq (P.cellsOf t) (n * ks.length)) (some (List.replicate n ks).flatten) none
    | some (.struct fs) =>
      match flatFs P (flatT P d) 0 fs.toList with
      | none => none
      | some ks => cond (Nat.beq (P.cellsOf t) ks.length) (some ks) none
    | _ => none

abbrev KI := List (IntKind × Int)
def KI.V (l : KI) : List Value := l.map fun p => .int p.1 p.2
def KI.L (l : KI) : List Lit := l.map fun p => .int p.1 p.2
def KI.wf (l : KI) : Prop := ∀ p ∈ l, (Lit.int p.1 p.2).wf = true

theorem KI.V_take (l : KI) (a b : Nat) : (l.V.drop a).take b = KI.V ((l.drop a).take b) := by simp [KI.V, List.map_take, List.map_drop]
theorem KI.wf_take {l : KI} (h : l.wf) (a b : Nat) : KI.wf ((l.drop a).take b) := fun p hp => h p (List.mem_of_mem_drop (List.mem_of_mem_take hp))

theorem mapM_of {α β : Type} {f : α → Option β} {g : α → β} : ∀ {l : List α}, (∀ x ∈ l, f x = some (g x)) → l.mapM f = some (l.map g)
  | [], _ => by simp
  | x :: r, h => by
    rw [List.mapM_cons, h x (by simp), mapM_of (fun y hy => h y (by simp [hy]))]
    rfl

theorem chunksL {α : Type} (c : Nat) : ∀ (n : Nat) (l : List α), l.length = n * c → ((List.range n).map fun i => (l.drop (i * c)).take c).flatten = l
  | 0, l, h => by
    have : l = [] := List.eq_nil_of_length_eq_zero (by simpa using h)
    subst this; simp
  | n + 1, l, h => by
    have hn : (n + 1) * c = n * c + c := Nat.succ_mul _ _
    rw [List.range_succ_eq_map, List.map_cons, List.flatten_cons, List.map_map]
    have : ((List.range n).map ((fun i => (l.drop (i * c)).take c) ∘ Nat.succ)) = (List.range n).map fun i => ((l.drop c).drop (i * c)).take c := by
      apply List.map_congr_left
      intro i _
      simp only [Function.comp, List.drop_drop]
      congr 2
      rw [Nat.succ_mul]; omega
    rw [this, chunksL c n (l.drop c) (by simp; omega)]
    simp

theorem flatten_replicate_chunk (ks : List IntKind) : ∀ (n i : Nat), i < n → (((List.replicate n ks).flatten).drop (i * ks.length)).take ks.length = ks
  | 0, i, h => by omega
  | n + 1, 0, _ => by simp [List.replicate_succ]
  | n + 1, i + 1, h => by
    rw [List.replicate_succ, List.flatten_cons, List.drop_append, List.drop_of_length_le (by rw [Nat.succ_mul]; omega)]
    rw [show (i + 1) * ks.length - ks.length = i * ks.length by rw [Nat.succ_mul]; omega]
    simpa using flatten_replicate_chunk ks n i (by omega)

theorem length_fst {l : KI} {ks : List IntKind} (h : l.map (·.1) = ks) : l.length = ks.length := by rw [← h]; simp

theorem keyLits_flat (P : Program) : ∀ (d : Nat) (t : TypeId) (ks : List IntKind), flatT P d t = some ks → ∀ (l : KI), l.map (·.1) = ks → l.wf → P.keyLits d t l.V = some l.L
  | 0, t, ks, h, _, _, _ => by simp [flatT] at h
  | d + 1, t, ks, h, l, hl, hw => by
    unfold flatT at h
    split at h
    · rename_i k hu
      simp at h; subst h
      obtain ⟨p, rfl⟩ : ∃ p, l = [p] := by
        match l, hl with
        | [p], _ => exact ⟨p, rfl⟩
      simp at hl
      have := hw p (by simp)
      rw [hl] at this
      simp [KI.V, KI.L, Program.keyLits, hu, hl, this]
    · rename_i n e hu
      split at h
      · cases h
      · rename_i ks' hk
        rw [Bool.cond_eq_ite] at h
        split at h
        · rename_i hc
          simp only [Bool.and_eq_true] at hc
          have c1 := Nat.eq_of_beq_eq_true hc.1
          have c2 := Nat.eq_of_beq_eq_true hc.2
          simp at h; subst h
          have hlen : l.length = n * ks'.length := by rw [length_fst hl]; simp
          have hf : ∀ i ∈ List.range n, P.keyLits d e ((l.V.drop (i * P.cellsOf e)).take (P.cellsOf e)) = some (KI.L ((l.drop (i * ks'.length)).take ks'.length)) := fun i hi => by
            rw [c1, KI.V_take]
            refine keyLits_flat P d e ks' hk _ ?_ (KI.wf_take hw _ _)
            rw [List.map_take, List.map_drop, hl]
            exact flatten_replicate_chunk ks' n i (by simpa using hi)
          have hne : ∀ v, l.V ≠ [Value.bool v] ∨ True := fun _ => .inr trivial
          unfold Program.keyLits
          simp only [hu]
          rw [if_pos (by simp [KI.V, hlen, c2]), mapM_of hf]
          simp only [Option.map_some, Option.some.injEq]
          have := chunksL ks'.length n l hlen
          conv => rhs; rw [← this]
          simp only [KI.L, List.map_flatten, List.map_map]
          rfl
        · cases h
    · rename_i fs hu
      split at h
      · cases h
      · rename_i ks' hk
        rw [Bool.cond_eq_ite] at h
        split at h
        · rename_i hc
          have c1 := Nat.eq_of_beq_eq_true hc
          simp at h; subst h
          have key : ∀ (fs : List Field) (off : Nat) (ks : List IntKind), flatFs P (flatT P d) off fs = some ks → (l.drop off).map (·.1) = ks →
              (fs.all (·.name != "_") = true) ∧ ∃ xs, fs.mapM (fun f => P.keyLits d f.type ((l.V.drop f.offset).take (P.cellsOf f.type))) = some xs ∧ xs.flatten = KI.L (l.drop off) := by
            intro fs
            induction fs with
            | nil =>
              intro off ks h hm
              simp [flatFs] at h; subst h
              have : l.drop off = [] := by simpa using hm
              exact ⟨rfl, [], rfl, by rw [this]; rfl⟩
            | cons f r ih =>
              intro off ks h hm
              simp only [flatFs] at h
              split at h
              · cases h
              · rename_i k1 h1
                split at h
                · cases h
                · rename_i k2 h2
                  rw [Bool.cond_eq_ite] at h
                  split at h
                  · rename_i hc
                    simp only [Bool.and_eq_true] at hc
                    obtain ⟨⟨g1, g2⟩, g3⟩ := hc
                    have g1 := Nat.eq_of_beq_eq_true g1
                    have g3 := Nat.eq_of_beq_eq_true g3
                    simp at h; subst h
                    have hd : (l.drop (off + k1.length)).map (·.1) = k2 := by
                      rw [← List.drop_drop, List.map_drop, hm]; simp
                    obtain ⟨i1, xs, i2, i3⟩ := ih _ _ h2 hd
                    have hh : P.keyLits d f.type ((l.V.drop f.offset).take (P.cellsOf f.type)) = some (KI.L ((l.drop off).take k1.length)) := by
                      rw [g1, g3, KI.V_take]
                      refine keyLits_flat P d f.type k1 h1 _ ?_ (KI.wf_take hw _ _)
                      rw [List.map_take, hm]; simp
                    refine ⟨by simp [g2]; simpa using i1, _ :: xs, by rw [List.mapM_cons, hh, i2]; rfl, ?_⟩
                    rw [List.flatten_cons, i3]
                    simp only [KI.L]
                    rw [← List.map_append]
                    congr 1
                    rw [← List.drop_drop]
                    exact List.take_append_drop _ _
                  · cases h
          obtain ⟨k1, xs, k2, k3⟩ := key fs.toList 0 ks' hk (by simpa using hl)
          unfold Program.keyLits
          simp only [hu]
          rw [if_pos ⟨by simp [KI.V, c1, length_fst hl], by simpa using k1⟩, k2]
          simpa using k3
        · cases h
    · cases h

theorem L_inj : ∀ {l m : KI}, l.map (·.1) = m.map (·.1) → (l.L = m.L ↔ l = m)
  | [], [], _ => by simp
  | [], _ :: _, h => by simp at h
  | _ :: _, [], h => by simp at h
  | (k, a) :: r, (k', b) :: s, h => by
    simp only [List.map_cons, List.cons.injEq] at h
    obtain ⟨rfl, h⟩ := h
    have := L_inj h
    simp only [KI.L] at this
    simp [KI.L, this]

/-- A struct or an array of integers. -/
def isWide (P : Program) (t : TypeId) : Bool := match P.underlying t with | some (.array _ _) => true | some (.struct _) => true | _ => false

/-- What makes two values of a type equal: their cells. -/
def flatEq (P : Program) (t : TypeId) (ks : List IntKind) : Bool :=
  isWide P t && P.keyTypeAt 20 t && !(P.eqGuardType P.depth t) && Nat.beq (P.cellsOf t) ks.length && decide (flatT P 20 t = some ks)

theorem flatEq_run {P : Program} {t : TypeId} {ks : List IntKind} (h : flatEq P t ks = true) {l m : KI} (hl : l.map (·.1) = ks) (hm : m.map (·.1) = ks) (wl : l.wf) (wm : m.wf) (w : World) (xo yo : Operand) (op : BinOp) (p : Bool) (hp : (op = .eql ∧ p = true) ∨ (op = .neq ∧ p = false)) :
    ((do eqGuard op t xo yo (.agg l.V.toArray) (.agg m.V.toArray); binOp op t (.agg l.V.toArray) (.agg m.V.toArray)) : Sem Value).run P w = .ok (.bool (cond p (decide (l = m)) (!decide (l = m)))) w := by
  unfold flatEq at h
  simp only [Bool.and_eq_true, decide_eq_true_eq, Bool.not_eq_true'] at h
  obtain ⟨⟨⟨⟨h1, h2⟩, h3⟩, h4⟩, h5⟩ := h
  have h4 := Nat.eq_of_beq_eq_true h4
  have fo : ∀ {l : KI}, l.map (·.1) = ks → (Value.agg l.V.toArray).formed P t = true := fun {l} hl => by
    unfold isWide at h1
    split at h1
    · rename_i hu; simp [Value.formed, hu, KI.V, h4, length_fst hl]
    · rename_i hu; simp [Value.formed, hu, KI.V, h4, length_fst hl]
    · cases h1
  obtain ⟨r, hr, hiff⟩ := run_equalIn_deep (P := P) 9980 20 t h2 w 20 20 (.agg l.V.toArray) (.agg m.V.toArray) l.L m.L (fo hl) (fo hm) (keyLits_flat P 20 t ks h5 l hl wl) (keyLits_flat P 20 t ks h5 m hm wm)
  rw [L_inj (hl.trans hm.symm)] at hiff
  have hr' : r = decide (l = m) := by
    cases r with
    | true => simp [hiff.1 rfl]
    | false =>
      have : ¬ l = m := fun e => by cases hiff.2 e
      simp [this]
  rw [Sem.run_bind, run_eqGuard_agg (hm := h3), Result.andThen_ok]
  rcases hp with ⟨rfl, rfl⟩ | ⟨rfl, rfl⟩
  · rw [run_eql_struct]
    rw [show (10000 : Nat) = 9980 + 20 from rfl, hr, hr']
    rfl
  · rw [run_neq_struct]
    rw [show (10000 : Nat) = 9980 + 20 from rfl, hr, hr']
    rfl

section
variable {H : Type} {enc : TypeId × Value → H} {P : Program} {w : World} {base : Nat} {spare : Nat → Bool} {held : Bool}
/-- A reading of integers: what the cells are. -/
theorem trod_flat : ∀ (d : Nat) (t : TypeId) (ks : List IntKind), flatT P d t = some ks → ∀ (fuel : Nat) (cs : List Value) (x : DataW H × List MemPlace), DataW.trod enc P w base spare held fuel t cs = some x →
    ∃ l : KI, l.map (·.1) = ks ∧ l.wf ∧ cs = l.V ∧ x.2 = []
  | 0, t, ks, h, _, _, _, _ => by simp [flatT] at h
  | d + 1, t, ks, h, fuel, cs, x, hx => by
    unfold flatT at h
    split at h
    · rename_i k hu
      simp at h; subst h
      obtain ⟨n, rfl, rfl, hn⟩ := DataW.trod_int hu hx
      exact ⟨[(k, n)], rfl, fun p hp => by simp at hp; subst hp; exact hn, rfl, rfl⟩
    · rename_i n e hu
      split at h
      · cases h
      · rename_i ks' hk
        rw [Bool.cond_eq_ite] at h
        split at h
        · rename_i hc
          simp only [Bool.and_eq_true] at hc
          have c1 := Nat.eq_of_beq_eq_true hc.1
          have c2 := Nat.eq_of_beq_eq_true hc.2
          simp at h; subst h
          obtain ⟨xs, m, rfl, rfl, hlen, hxl, hi⟩ := DataW.trod_array hu hx
          have each : ∀ i, i < n → ∃ l : KI, l.map (·.1) = ks' ∧ l.wf ∧ (cs.drop (i * ks'.length)).take ks'.length = l.V ∧ ∀ y, xs[i]? = some y → y.2 = [] := fun i hin => by
            have := hi i hin
            rw [List.getElem?_eq_getElem (by omega)] at this
            obtain ⟨l, l1, l2, l3, l4⟩ := trod_flat d e ks' hk m _ _ this
            rw [c1] at l3
            exact ⟨l, l1, l2, l3, fun y hy => by rw [List.getElem?_eq_getElem (by omega)] at hy; cases hy; exact l4⟩
          have key : ∀ (n : Nat) (cs : List Value), cs.length = n * ks'.length → (∀ i, i < n → ∃ l : KI, l.map (·.1) = ks' ∧ l.wf ∧ (cs.drop (i * ks'.length)).take ks'.length = l.V) →
              ∃ l : KI, l.map (·.1) = (List.replicate n ks').flatten ∧ l.wf ∧ cs = l.V := by
            intro n
            induction n with
            | zero =>
              intro cs hc _
              have : cs = [] := List.eq_nil_of_length_eq_zero (by simpa using hc)
              subst this
              exact ⟨[], rfl, (fun _ h => by cases h), rfl⟩
            | succ n ih =>
              intro cs hc hall
              obtain ⟨l0, a1, a2, a3⟩ := hall 0 (by omega)
              have hs : (n + 1) * ks'.length = n * ks'.length + ks'.length := Nat.succ_mul _ _
              obtain ⟨l1, b1, b2, b3⟩ := ih (cs.drop ks'.length) (by simp; omega) (fun i hi => by
                obtain ⟨l, g1, g2, g3⟩ := hall (i + 1) (by omega)
                refine ⟨l, g1, g2, ?_⟩
                rw [List.drop_drop, ← g3]
                congr 2
                rw [Nat.succ_mul]; omega)
              refine ⟨l0 ++ l1, by simp [a1, b1, List.replicate_succ], fun p hp => (List.mem_append.1 hp).elim (a2 p) (b2 p), ?_⟩
              simp only [Nat.zero_mul, List.drop_zero] at a3
              rw [← List.take_append_drop ks'.length cs, a3, b3]
              simp [KI.V]
          obtain ⟨l, g1, g2, g3⟩ := key n cs (by rw [hlen, c2]) (fun i hi => by obtain ⟨l, a, b, c, _⟩ := each i hi; exact ⟨l, a, b, c⟩)
          refine ⟨l, g1, g2, g3, ?_⟩
          simp only [List.flatMap_eq_nil_iff]
          intro y hy
          obtain ⟨i, hil, rfl⟩ := List.getElem_of_mem hy
          obtain ⟨_, _, _, _, h4⟩ := each i (by omega)
          exact h4 _ (List.getElem?_eq_getElem hil)
        · cases h
    · rename_i fs hu
      split at h
      · cases h
      · rename_i ks' hk
        rw [Bool.cond_eq_ite] at h
        split at h
        · rename_i hc
          have c1 := Nat.eq_of_beq_eq_true hc
          simp at h; subst h
          obtain ⟨xs, m, rfl, rfl, hlen, hxl, hi⟩ := DataW.trod_struct hu hx
          have key : ∀ (fs : List Field) (off : Nat) (ks : List IntKind) (cs : List Value) (xs : List (DataW H × List MemPlace)), flatFs P (flatT P d) off fs = some ks → cs.length = off + ks.length → xs.length = fs.length →
              (∀ (i : Nat) (f : Field), fs[i]? = some f → DataW.trod enc P w base spare held m f.type ((cs.drop f.offset).take (P.cellsOf f.type)) = xs[i]?) →
              ∃ l : KI, l.map (·.1) = ks ∧ l.wf ∧ cs.drop off = l.V ∧ ∀ y ∈ xs, y.2 = [] := by
            intro fs
            induction fs with
            | nil =>
              intro off ks cs xs h hc hxs _
              simp [flatFs] at h; subst h
              have : xs = [] := List.eq_nil_of_length_eq_zero (by simpa using hxs)
              subst this
              exact ⟨[], rfl, (fun _ h => by cases h), (by simp [KI.V]; simp at hc; omega), fun _ h => by cases h⟩
            | cons f r ih =>
              intro off ks cs xs h hc hxs hall
              simp only [flatFs] at h
              split at h
              · cases h
              · rename_i k1 h1
                split at h
                · cases h
                · rename_i k2 h2
                  rw [Bool.cond_eq_ite] at h
                  split at h
                  · rename_i hc'
                    simp only [Bool.and_eq_true] at hc'
                    obtain ⟨⟨g1, g2⟩, g3⟩ := hc'
                    have g1 := Nat.eq_of_beq_eq_true g1
                    have g3 := Nat.eq_of_beq_eq_true g3
                    simp at h; subst h
                    obtain ⟨x0, xr, rfl⟩ : ∃ x0 xr, xs = x0 :: xr := by
                      cases xs with
                      | nil => simp at hxs
                      | cons a b => exact ⟨a, b, rfl⟩
                    have h0 := hall 0 f rfl
                    simp only [List.getElem?_cons_zero, g1, g3] at h0
                    obtain ⟨l0, a1, a2, a3, a4⟩ := trod_flat d f.type k1 h1 m _ _ h0
                    obtain ⟨l1, b1, b2, b3, b4⟩ := ih (off + k1.length) k2 cs xr h2 (by simp at hc; omega) (by simpa using hxs) (fun i f' hf' => by simpa using hall (i + 1) f' (by simpa using hf'))
                    refine ⟨l0 ++ l1, by simp [a1, b1], fun p hp => (List.mem_append.1 hp).elim (a2 p) (b2 p), ?_, fun y hy => ?_⟩
                    · rw [← List.take_append_drop k1.length (cs.drop off), a3, List.drop_drop, b3]
                      simp [KI.V]
                    · rcases List.mem_cons.1 hy with rfl | hy
                      · exact a4
                      · exact b4 y hy
                  · cases h
          obtain ⟨l, g1, g2, g3, g4⟩ := key fs.toList 0 ks' cs xs hk (by rw [hlen, c1]; omega) (by simpa using hxl) (fun i f hf => hi i f (by simpa using hf))
          refine ⟨l, g1, g2, by simpa using g3, ?_⟩
          simp only [List.flatMap_eq_nil_iff]
          exact g4
        · cases h
    · cases h
end

end Go.Ev
