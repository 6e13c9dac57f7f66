/- A closed call is worked out by a program of its own: what a temporary that an operation does not look at can do to it: nothing. -/
import Derived.Test.YtllnglofbhmcgaaGreatEvF
namespace Go.Ev

/-- Two frames that agree on an operation's operands. -/
def SameOn (T T' : Fr) (xs : List Operand) : Prop := ∀ x ∈ xs, opd T x = opd T' x

theorem map_opd_congr {T T' : Fr} : ∀ {l : List Operand}, SameOn T T' l → l.map (opd T) = l.map (opd T')
  | [], _ => rfl
  | x :: r, h => by rw [List.map_cons, List.map_cons, h x (by simp), map_opd_congr (fun y hy => h y (by simp [hy]))]

set_option maxHeartbeats 1000000 in
theorem evalMem_congr [Ctxt] (P : Program) (call : CallFn) (lim : Nat) {T T' : Fr} (M : Mem) (op : Op) (h : SameOn T T' op.operands.toList) : evalMem P call lim T M op = evalMem P call lim T' M op := by
  cases op <;> simp only [evalMem]
  case move x => rw [h x (by simp [Op.operands])]
  case assign x => rw [h x (by simp [Op.operands])]
  case pick c a b => rw [h c (by simp [Op.operands]), h a (by simp [Op.operands]), h b (by simp [Op.operands])]
  case box t x => rw [h x (by simp [Op.operands])]
  case load t x => rw [h x (by simp [Op.operands])]
  case store t x y => rw [h x (by simp [Op.operands]), h y (by simp [Op.operands])]
  case nilCheck x => rw [h x (by simp [Op.operands])]
  case makeFunc f a b => rw [map_opd_congr (l := a.toList) (fun x hx => h x (by simp [Op.operands]; simp at hx; exact .inl hx)), map_opd_congr (l := b.toList) (fun x hx => h x (by simp [Op.operands]; simp at hx; exact .inr hx))]
  case fieldAddr s x f => rw [h x (by simp [Op.operands])]
  case indexAddr t x k => rw [h x (by simp [Op.operands]), h k (by simp [Op.operands])]
  case makeSlice t l c => rw [h l (by simp [Op.operands]), h c (by simp [Op.operands])]
  case extract x k => rw [h x (by simp [Op.operands])]
  case convert src dst x => rw [h x (by simp [Op.operands])]
  case binOp op t x y t' => rw [h x (by simp [Op.operands]), h y (by simp [Op.operands])]
  case slice t x lo hi mx =>
    have h1 : lo.map (opd T) = lo.map (opd T') := by cases lo with | none => rfl | some z => simp [h z (by simp [Op.operands])]
    have h2 : hi.map (opd T) = hi.map (opd T') := by cases hi with | none => rfl | some z => simp [h z (by simp [Op.operands])]
    have h3 : mx.map (opd T) = mx.map (opd T') := by cases mx with | none => rfl | some z => simp [h z (by simp [Op.operands])]
    rw [h x (by simp [Op.operands]), h1, h2, h3]
  case buildSlice t n parts =>
    have hp : ∀ q ∈ parts.toList, opd T q.2 = opd T' q.2 := fun q hq => h q.2 (by simp only [Op.operands, List.mem_map]; exact ⟨q, hq, rfl⟩)
    have h1 : (parts.toList.all fun q => isClo (opd T q.2)) = (parts.toList.all fun q => isClo (opd T' q.2)) := by
      rw [Bool.eq_iff_iff, List.all_eq_true, List.all_eq_true]
      exact ⟨fun g q hq => by rw [← hp q hq]; exact g q hq, fun g q hq => by rw [hp q hq]; exact g q hq⟩
    have h2 : (parts.toList.map fun q => (q.1, (opd T q.2).val)) = (parts.toList.map fun q => (q.1, (opd T' q.2).val)) := List.map_congr_left fun q hq => by rw [hp q hq]
    have h3 : (parts.toList.map fun q => (q.1, opd T q.2)) = (parts.toList.map fun q => (q.1, opd T' q.2)) := List.map_congr_left fun q hq => by rw [hp q hq]
    simp only [evBuildS, evBuildO, h1, h2, h3]
  case field t x f => rw [h x (by simp [Op.operands])]
  case index t x k => rw [h x (by simp [Op.operands]), h k (by simp [Op.operands])]
  case makeMap t r =>
    have h1 : r.map (opd T) = r.map (opd T') := by cases r with | none => rfl | some z => simp [h z (by simp [Op.operands])]
    rw [h1]
  case lookup t x k ok => rw [h x (by simp [Op.operands]), h k (by simp [Op.operands])]
  case mapUpdate t m k x => rw [h m (by simp [Op.operands]), h k (by simp [Op.operands]), h x (by simp [Op.operands])]
  case insert t m k x => rw [h m (by simp [Op.operands]), h k (by simp [Op.operands]), h x (by simp [Op.operands])]
  case range t x => rw [h x (by simp [Op.operands])]
  case next x b => rw [h x (by simp [Op.operands])]
  case build t parts =>
    have hp : ∀ q ∈ parts.toList, opd T q.2 = opd T' q.2 := fun q hq => h q.2 (by simp only [Op.operands, List.mem_map]; exact ⟨q, hq, rfl⟩)
    have h3 : (parts.toList.map fun q => (q.1, opd T q.2)) = (parts.toList.map fun q => (q.1, opd T' q.2)) := List.map_congr_left fun q hq => by rw [hp q hq]
    rw [h3]
  case call c =>
    obtain ⟨cal, args, argTypes⟩ := c
    simp only [evCallOp]
    have ha : ∀ x ∈ args.toList, opd T x = opd T' x := fun x hx => h x (by simp [Op.operands, Call.operands]; simp at hx; exact .inr hx)
    cases cal with
    | value f =>
      have hf := h f (by simp [Op.operands, Call.operands])
      simp only [evalCall, hf, map_opd_congr ha]
    | invoke r m => rfl
    | builtin b =>
      show evalBuiltin P lim T M b argTypes.toList args.toList = evalBuiltin P lim T' M b argTypes.toList args.toList
      generalize argTypes.toList = tys at *
      generalize args.toList = as at *
      unfold evalBuiltin
      split
      · rename_i t x
        simp only [ha x (by simp)]
      · rename_i t x
        simp only [ha x (by simp)]
      · rename_i t u s x
        simp only [ha s (by simp), ha x (by simp)]
      · rename_i t x
        simp only [ha x (by simp)]
      · rename_i t u d s
        simp only [ha d (by simp), ha s (by simp)]
      · rename_i t u x n
        simp only [ha x (by simp), ha n (by simp)]
      · rfl

theorem evalPure_congr (P : Program) {T T' : Fr} (o : Oper) (h : SameOn T T' o.op.operands.toList) : evalPure P T o = evalPure P T' o := by
  unfold evalPure
  have h1 : (o.op.operands.toList.all fun x => isClo (opd T x)) = (o.op.operands.toList.all fun x => isClo (opd T' x)) := by
    rw [Bool.eq_iff_iff, List.all_eq_true, List.all_eq_true]
    exact ⟨fun g q hq => by rw [← h q hq]; exact g q hq, fun g q hq => by rw [h q hq]; exact g q hq⟩
  rw [h1]
  cases hc : (noSel o.op && o.op.operands.toList.all fun x => isClo (opd T' x)) with
  | false => rfl
  | true =>
    simp only [cond_true]
    simp only [Bool.and_eq_true] at hc
    rw [execOp_congr o (fun cs b hs => by rw [hs] at hc; simp [noSel] at hc) (fun x hx => by rw [h x (by simpa using hx)])]

theorem opKey_sub {op : Op} {k : OpKey} {xs : List Operand} (h : opKey op = some (k, xs)) : ∀ x ∈ xs, x ∈ op.operands.toList := by
  unfold opKey at h
  split at h
  · simp at h; obtain ⟨_, rfl⟩ := h
    intro x hx; simpa [Op.operands] using hx
  · simp at h; obtain ⟨_, rfl⟩ := h
    intro x hx; simpa [Op.operands] using hx
  · simp at h; obtain ⟨_, rfl⟩ := h
    intro x hx; simpa [Op.operands] using hx
  · simp at h; obtain ⟨_, rfl⟩ := h
    intro x hx; simpa [Op.operands] using hx
  · simp at h; obtain ⟨_, rfl⟩ := h
    intro x hx; simpa [Op.operands] using hx
  · simp at h; obtain ⟨_, rfl⟩ := h
    intro x hx; simpa [Op.operands] using hx
  · rename_i t y lo hi
    simp at h; obtain ⟨_, rfl⟩ := h
    intro x hx
    cases lo <;> cases hi <;> simpa [Op.operands] using hx
  · simp at h; obtain ⟨_, rfl⟩ := h
    intro x hx; simpa [Op.operands] using hx
  · simp at h; obtain ⟨_, rfl⟩ := h
    intro x hx; simpa [Op.operands] using hx
  · simp at h; obtain ⟨_, rfl⟩ := h
    intro x hx; simpa [Op.operands] using hx
  · split at h
    · simp at h; obtain ⟨_, rfl⟩ := h
      intro x hx; simp [Op.operands, Call.operands]; exact .inr (by simpa using hx)
    · simp at h; obtain ⟨_, rfl⟩ := h
      intro x hx; simp [Op.operands, Call.operands]; exact .inr (by simpa using hx)
    · split at h
      · simp at h; obtain ⟨_, rfl⟩ := h
        intro x hx; simp [Op.operands, Call.operands]; exact .inr (by simpa using hx)
      · cases h
    · cases h
  · cases h

theorem evalTold_congr [Ctxt] {T T' : Fr} (op : Op) (h : SameOn T T' op.operands.toList) : evalTold T op = evalTold T' op := by
  unfold evalTold
  split
  · rename_i q hq
    rw [map_opd_congr (l := q.2) fun x hx => h x (opKey_sub hq x hx)]
  · rfl

theorem evalOp_congr [Ctxt] (P : Program) (call : CallFn) (lim : Nat) {T T' : Fr} (M : Mem) (o : Oper) (h : SameOn T T' o.op.operands.toList) : evalOp P call lim T M o = evalOp P call lim T' M o := by
  unfold evalOp evalSlow
  rw [evalMem_congr P call lim M o.op h, evalAbs_congr P lim M o.op h, evalPure_congr P o h, evalTold_congr o.op h]

def asB : Value → Option Bool
  | .bool b => some b
  | _ => none

theorem isTrueC_den [Ctxt] {e : Env} {c : CV} {v : Value} (h : den e c = some v) : isTrueC c = asB v := by
  cases c with
  | clo u =>
    have := den_clo h; subst this
    cases v <;> rfl
  | ptr i o => obtain ⟨_, _, rfl⟩ := den_ptr h; rfl
  | sl i o n c s => obtain ⟨_, _, rfl⟩ := den_sl h; rfl
  | fn f a b => simp only [den, Option.bind_eq_some_iff, Option.map_eq_some_iff] at h; obtain ⟨_, _, _, _, rfl⟩ := h; rfl
  | agg l => simp only [den, Option.map_eq_some_iff] at h; obtain ⟨_, _, rfl⟩ := h; rfl
  | tup l => simp only [den, Option.map_eq_some_iff] at h; obtain ⟨_, _, rfl⟩ := h; rfl
  | yl i => simp only [den, Option.map_eq_some_iff] at h; obtain ⟨_, _, rfl⟩ := h; rfl
  | lp => simp [den] at h
  | df => simp [den] at h
  | mp i => simp only [den, Option.map_eq_some_iff] at h; obtain ⟨_, _, rfl⟩ := h; rfl
  | mo => simp [den] at h
  | si => simp [den] at h
  | ab => simp [den] at h
  | as i n => simp only [den, Option.bind_eq_some_iff, Option.map_eq_some_iff] at h; obtain ⟨_, _, _, _, rfl⟩ := h; rfl
  | pa i k z off => simp only [den, Option.bind_eq_some_iff, Option.map_eq_some_iff] at h; obtain ⟨_, _, _, _, _, _, rfl⟩ := h; rfl
  | sy i =>
    simp only [den, Option.some.injEq] at h; subst h
    have hb := (Ctxt.sym i).nb
    show none = _
    cases hv : (Ctxt.sym i).v <;> first | rfl | exact absurd hv (hb _)

theorem yieldC_eq [Ctxt] {e : Env} {T : Fr} {a : Act} (hT : DT e T a) (ops : Array Oper) (j : Nat) : yieldC ops T j = yielded ops a.tmps j := by
  unfold yieldC yielded
  cases hd : (ops[j]?).bind (·.dst) with
  | none => rfl
  | some d =>
    simp only [Option.bind_some]
    have h := isTrueC_den (hT.get d)
    rcases blt_cases d T.n with ⟨h1, h2⟩ | ⟨h1, h2⟩
    · rw [h1, cond_true, h]
      rw [hT.n] at h2
      rw [Array.getD_eq_getD_getElem?, Array.getElem?_eq_getElem h2]
      simp
      cases a.tmps[d] <;> rfl
    · rw [h1, cond_false]
      rw [hT.n] at h2
      rw [Array.getElem?_eq_none h2]

theorem yieldC_congr (ops : Array Oper) {T T' : Fr} (o : Oper) (hn : T.n = T'.n) (h : ∀ t, t ∈ o.looksAt ops → T.get t = T'.get t) : Region.wanted o (yieldC ops T) = Region.wanted o (yieldC ops T') := by
  unfold Region.wanted
  cases hg : o.guard with
  | none => rfl
  | some g =>
    obtain ⟨j, want⟩ := g
    have hy : yieldC ops T j = yieldC ops T' j := by
      unfold yieldC
      cases hd : (ops[j]?).bind (·.dst) with
      | none => rfl
      | some d =>
        have := h d (by simp [Oper.looksAt, hg, hd])
        simp only [this, hn]
    simp only [hy]

theorem sameOn_of_looks (ops : Array Oper) {T T' : Fr} (o : Oper) (h : ∀ t, t ∈ o.looksAt ops → T.get t = T'.get t) : SameOn T T' o.op.operands.toList := by
  intro x hx
  cases x with
  | tmp t => exact h t (List.mem_append_left _ (List.mem_filterMap.2 ⟨.tmp t, hx, rfl⟩))
  | const v => rfl
  | global g => rfl
  | func f => rfl

theorem DT.putC [Ctxt] {e : Env} {T : Fr} {a : Act} (h : DT e T a) {v : CV} {u : Value} (hv : den e v = some u) (dst : Option Tmp) : DT e (Ev.putC T dst v) (a.put dst u) := by
  cases dst with
  | none => exact h
  | some d => exact h.put hv d

theorem put_defers (a : Act) (dst : Option Tmp) (u : Value) : (a.put dst u).defers = a.defers := by cases dst <;> rfl
theorem putC_ms (T : Fr) (d : Option Tmp) (v : CV) : (putC T d v).ms = T.ms := by
  cases d with
  | none => rfl
  | some d => exact Fr.put_ms T d v
theorem DF.put {e e' : Env} {T : Fr} {a : Act} (h : DF e T a) (he : Env.le e e') (dst : Option Tmp) (u : Value) : DF e' T (a.put dst u) := by
  unfold DF
  rw [put_defers]
  exact h.mono he
theorem DF.putC {e e' : Env} {T : Fr} {a : Act} (h : DF e T a) (he : Env.le e e') (dst : Option Tmp) (u : Value) (v : CV) : DF e' (Go.Ev.putC T dst v) (a.put dst u) := by
  unfold DF
  rw [put_defers, putC_ms]
  exact h.mono he

end Go.Ev
