/- Lists that are known by symbols: rows whose cells are a list that a symbol stands for. -/
import Derived.Test.YtllnglofbhmcgaaGreatEvZ
namespace Go.Ev

/-- What the tables of lists must do. -/
def AbOK [Ctxt] (P : Program) : Prop :=
  (∀ n k, Ctxt.ab.ix n k = true → ∀ (e : Env) v, den e k = some v → ∃ m N, asN v = some m ∧ asN (Ctxt.sym n).v = some N ∧ m < N) ∧
  (∀ y k z off cnt l, Ctxt.ab.gt y k z off cnt = some l → ∀ (e : Env) v, den e k = some v → ∃ m xs, asN v = some m ∧ denL e l = some xs ∧ xs = ((Ctxt.ab.lst y).drop (m * z + off)).take cnt ∧ xs.length = cnt) ∧
  (∀ y k z off l y', Ctxt.ab.pt y k z off l = some y' → ∀ (e : Env) v xs, den e k = some v → denL e l = some xs → ∃ m, asN v = some m ∧ m * z + off + xs.length ≤ (Ctxt.ab.lst y).length ∧
    Ctxt.ab.lst y' = (Ctxt.ab.lst y).take (m * z + off) ++ xs ++ (Ctxt.ab.lst y).drop (m * z + off + xs.length)) ∧
  (∀ y n z l y' n', Ctxt.ab.ap y n z l = some (y', n') → ∀ (e : Env) xs, denL e l = some xs → ∃ N m, asN (Ctxt.sym n).v = some N ∧ (Ctxt.ab.lst y).length = N * z ∧ xs.length = m * z ∧
    Ctxt.ab.lst y' = Ctxt.ab.lst y ++ xs ∧ asN (Ctxt.sym n').v = some (N + m) ∧ N + m ≤ 1000000) ∧
  (∀ t l y n, Ctxt.ab.ms t l = some (y, n) → ∀ (e : Env) v, den e l = some v → ∃ m, asN v = some m ∧ asN (Ctxt.sym n).v = some m ∧ m ≤ 1000000 ∧ ∀ inf z, P.info? t = some inf → inf.zero = some z → Ctxt.ab.lst y = cellsOfRange z.cells (m * inf.size))
theorem abOK_no [C : Ctxt] {P : Program} (h : C.ab = .no) : AbOK P := by
  unfold AbOK
  have h : Ctxt.ab = .no := h
  rw [h]
  exact ⟨(fun _ _ h => by cases h), (fun _ _ _ _ _ _ h => by cases h), (fun _ _ _ _ _ _ h => by cases h), (fun _ _ _ _ _ _ h => by cases h), (fun _ _ _ _ h => by cases h)⟩

theorem den_as [Ctxt] {e : Env} {i : Nat} {n : Tm} {v : Value} (h : den e (.as i n) = some v) : ∃ p m, e i = some p ∧ asN (Ctxt.sym n).v = some m ∧ v = .slice (some ⟨p.1, 0, none⟩) m p.2 := by
  simp only [den, Option.bind_eq_some_iff, Option.map_eq_some_iff] at h
  obtain ⟨p, hp, m, hm, rfl⟩ := h
  exact ⟨p, m, hp, hm, rfl⟩
theorem den_pa [Ctxt] {e : Env} {i : Nat} {k : CV} {z off : Nat} {v : Value} (h : den e (.pa i k z off) = some v) : ∃ p u m, e i = some p ∧ den e k = some u ∧ asN u = some m ∧ v = .pointer (some ⟨p.1, m * z + off, none⟩) := by
  simp only [den, Option.bind_eq_some_iff, Option.map_eq_some_iff] at h
  obtain ⟨p, hp, u, hu, m, hm, rfl⟩ := h
  exact ⟨p, u, m, hp, hu, hm, rfl⟩
theorem asN_some {v : Value} {m : Nat} (h : asN v = some m) : v = .int .i64 (m : Int) := by
  unfold asN at h
  split at h
  · cases h; rfl
  · cases h

/-- The list in a block, its type and the size of an element. -/
noncomputable def abAt (M : Mem) (i : Nat) : Option (Tm × TypeId × Nat) :=
  match M.at i with
  | some ⟨[.ab y t z], _, some 0⟩ => some (y, t, z)
  | _ => none
/-- A block as if its cells were known. -/
theorem abAt_rep [Ctxt] {e : Env} {M : Mem} {w : World} (hR : Rep e M w) {i : Nat} {y : Tm} {t : TypeId} {z : Nat} (h : abAt M i = some (y, t, z)) {p : Nat × Nat} (hp : e i = some p) :
    (∃ b, M.at i = some b) ∧ ∃ c, w.heap[p.1]? = some (.cells c t (0, 0)) ∧ c.toList.take (Ctxt.ab.lst y).length = Ctxt.ab.lst y ∧ c.size = p.2 * z ∧ p.2 ≤ maxLen := by
  unfold abAt at h
  split at h
  · rename_i y' t' z' ty hb
    cases h
    obtain ⟨q, hq, hB⟩ := hR.blk i _ hb
    rw [hp] at hq; cases hq
    refine ⟨⟨_, hb⟩, ?_⟩
    rcases hB with ⟨_, _, _, _, h2, _⟩ | ⟨_, c, h2, _, h3⟩
    · simp [denL, den] at h2
    · simp at h2; subst h2
      exact h3
  · cases h
theorem repC_of [Ctxt] {e : Env} {L : List Value} {t : TypeId} {z : Nat} {p : Nat × Nat} {w : World} {c : Array Value} (h1 : w.heap[p.1]? = some (.cells c t (0, 0))) (h2 : c.toList.take L.length = L) (h3 : c.size = p.2 * z) (h4 : p.2 ≤ maxLen) :
    RepB e ⟨L.map .clo, t, some z⟩ p w := RepB.of c L h1 (denL_clo e L) h2 (fun _ => ⟨h3, h4⟩)
theorem ab_of [Ctxt] {e : Env} {y : Tm} {ty t : TypeId} {z : Nat} {p : Nat × Nat} {w : World} {c : Array Value} (h1 : w.heap[p.1]? = some (.cells c t (0, 0))) (h2 : c.toList.take (Ctxt.ab.lst y).length = Ctxt.ab.lst y) (h3 : c.size = p.2 * z) (h4 : p.2 ≤ maxLen) :
    RepB e ⟨[.ab y t z], ty, some 0⟩ p w := .inr ⟨rfl, _, rfl, rfl, c, h1, h2, h3, h4⟩

noncomputable def abLoad [Ctxt] (P : Program) (M : Mem) (t : TypeId) (x : CV) : Option (CV × Mem) :=
  match x with
  | .pa i k z off =>
    match abAt M i with
    | none => none
    | some q =>
      match P.underlying t with
      | none => none
      | some d =>
        match P.info? t with
        | none => none
        | some inf =>
          match Ctxt.ab.gt q.1 k z off inf.size with
          | none => none
          | some l => cond (Nat.beq z q.2.2) (cond d.isRow (some (mkAgg l, M)) (match l with | [c] => some (c, M) | _ => none)) none
  | _ => none
noncomputable def abStore [Ctxt] (P : Program) (lim : Nat) (M : Mem) (t : TypeId) (x v : CV) : Option (CV × Mem) :=
  match x with
  | .pa i k z off =>
    match abAt M i with
    | none => none
    | some q =>
      match P.info? t with
      | none => none
      | some inf =>
        cond (Nat.ble lim i && Nat.beq z q.2.2 && Nat.beq v.cells.length inf.size && v.cells.all oneCellC)
          (match Ctxt.ab.pt q.1 k z off v.cells with
          | none => none
          | some y' => some (.clo undef, M.set i ⟨[.ab y' q.2.1 z], 0, some 0⟩)) none
  | _ => none
def abField (P : Program) (s : TypeId) (f : Nat) (x : CV) : Option CV :=
  match x with
  | .pa i k z off =>
    match P.underlying s with
    | some (.struct fields) =>
      match fields[f]? with
      | none => none
      | some fd =>
        match P.info? fd.type with
        | none => none
        | some inf => cond (Nat.beq inf.size 0) none (some (.pa i k z (off + fd.offset)))
    | _ => none
  | _ => none
def abIndex [Ctxt] (P : Program) (t : TypeId) (x k : CV) : Option CV :=
  match x with
  | .as i n =>
    match P.underlying t with
    | some (.slice elem) =>
      match P.info? elem with
      | none => none
      | some inf => cond (Ctxt.ab.ix n k) (some (.pa i k inf.size 0)) none
    | _ => none
  | _ => none
def abLen (P : Program) (t : TypeId) (x : CV) : Option CV :=
  match x with
  | .as _ n => match P.underlying t with | some (.slice _) => some (.sy n) | _ => none
  | _ => none
/-- Cells put behind a list that is known by a symbol. -/
noncomputable def abAppN [Ctxt] (P : Program) (lim : Nat) (M : Mem) (t u : TypeId) (i : Nat) (n : Tm) (src : Nat → Option (List CV)) (m : Nat) : Option (CV × Mem) :=
    match P.underlying t with
    | some (.slice elem) =>
      match P.info? elem with
      | none => none
      | some inf =>
        match inf.zero with
        | none => none
        | some zv =>
          match abAt M i with
          | none => none
          | some q =>
            match src (m * inf.size) with
            | none => none
            | some news =>
              cond (Nat.beq t u && Nat.beq q.2.1 elem && Nat.beq q.2.2 inf.size && Nat.beq zv.cells.size inf.size && Nat.blt 0 inf.size && Nat.ble lim i && Nat.ble inf.bytes 1000000 && news.all oneCellC)
                (match Ctxt.ab.ap q.1 n inf.size news with
                | none => none
                | some r => some (.as M.next r.2, (M.keep fun k => !Nat.beq k i).push ⟨[.ab r.1 elem inf.size], 0, some 0⟩)) none
    | _ => none
noncomputable def abApp [Ctxt] (P : Program) (lim : Nat) (M : Mem) (t u : TypeId) (s x : CV) : Option (CV × Mem) :=
  match s, x with
  | .as i n, .sl j offj m _ _ => abAppN P lim M t u i n (evalRange M j offj) m
  | .as i n, .clo (.slice none 0 _) => abAppN P lim M t u i n (fun _ => some []) 0
  | _, _ => none
/-- The same variable. -/
def eqTm : Tm → Tm → Bool
  | .v i, .v j => Nat.beq i j
  | _, _ => false
theorem eqTm_eq {a b : Tm} (h : eqTm a b = true) : a = b := by
  unfold eqTm at h
  split at h
  · rw [Nat.eq_of_beq_eq_true h]
  · cases h
noncomputable def abMake [Ctxt] (P : Program) (M : Mem) (t : TypeId) (l c : CV) : Option (CV × Mem) :=
  match l, c with
  | .sy i, .sy j =>
    match P.underlying t with
    | some (.slice elem) =>
      match P.info? elem with
      | none => none
      | some inf =>
        match inf.zero with
        | none => none
        | some zv =>
          match Ctxt.ab.ms elem (.sy i) with
          | none => none
          | some r => cond (eqTm i j && Nat.beq zv.cells.size inf.size && Nat.ble inf.bytes 1000000) (some (.as M.next r.2, M.push ⟨[.ab r.1 elem inf.size], 0, some 0⟩)) none
    | _ => none
  | _, _ => none
noncomputable def evalAbs [Ctxt] (P : Program) (lim : Nat) (T : Fr) (M : Mem) (op : Op) : Option (CV × Mem) :=
  match op with
  | .load t x => abLoad P M t (opd T x)
  | .store t x y => abStore P lim M t (opd T x) (opd T y)
  | .fieldAddr s x f => withM M (abField P s f (opd T x))
  | .indexAddr t x k => withM M (abIndex P t (opd T x) (opd T k))
  | .makeSlice t l c => abMake P M t (opd T l) (opd T c)
  | .call c =>
    match c.callee with
    | .builtin .len => match c.argTypes.toList, c.args.toList with | [t], [x] => withM M (abLen P t (opd T x)) | _, _ => none
    | .builtin .append => match c.argTypes.toList, c.args.toList with | [t, u], [s, x] => abApp P lim M t u (opd T s) (opd T x) | _, _ => none
    | _ => none
  | _ => none
end Go.Ev
