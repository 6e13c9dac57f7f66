/- A closed call is worked out by a program of its own: a region whose operations stand in a chain, but for those that only look. -/
import Derived.Test.YtgfhihgjkjeoeaaDoorEvK
namespace Go.Ev

theorem at_joinR [Ctxt] (M M' : Mem) (k : Nat) : (joinM M M').at k = if M.next ≤ k ∧ k < M'.next then M'.at k else if k < M.next then M.at k else none := by
  have happ : ∀ (l l' : List (Nat × Blk)), look (l ++ l') k = (look l k).or (look l' k) := by
    intro l l'
    induction l with
    | nil => simp [look_nil]
    | cons x r ih =>
      rw [List.cons_append, look_cons, look_cons, ih]
      cases Nat.beq x.1 k <;> simp
  have hj : (joinM M M').at k = (if (Nat.ble M.next k && Nat.blt k M'.next) = true then look M'.l k else none).or (if Nat.blt k M.next = true then look M.l k else none) := by
    simp only [joinM, Mem.at, happ, look_keepL]
  rw [hj]
  show _ = if M.next ≤ k ∧ k < M'.next then look M'.l k else if k < M.next then look M.l k else none
  rcases Nat.lt_or_ge k M.next with h | h
  · have h1 : Nat.ble M.next k = false := by cases hb : Nat.ble M.next k with | false => rfl | true => exact absurd (Nat.le_of_ble_eq_true hb) (by omega)
    have h2 : Nat.blt k M.next = true := Nat.ble_eq_true_of_le h
    rw [if_neg (show ¬ (M.next ≤ k ∧ k < M'.next) by omega), h1, h2, if_pos h]
    rfl
  · have h1 : Nat.ble M.next k = true := Nat.ble_eq_true_of_le h
    have h2 : Nat.blt k M.next = false := by cases hb : Nat.blt k M.next with | false => rfl | true => exact absurd (Nat.le_of_ble_eq_true hb) (by omega)
    rcases blt_cases k M'.next with ⟨h4, h5⟩ | ⟨h4, h5⟩
    · rw [if_pos (show M.next ≤ k ∧ k < M'.next from ⟨h, h5⟩), h1, h2, h4]; simp
    · rw [if_neg (show ¬ (M.next ≤ k ∧ k < M'.next) by omega), if_neg (show ¬ k < M.next by omega), h1, h2, h4]; rfl

/-- A step that only looks at part of the memory, and changes nothing of it. -/
theorem post_read [Ctxt] {lim : Nat} {e0 e e' : Env} {M0 Mc Mi Mi' : Mem} {w0 w w' : World} (h : Post lim e0 M0 w0 e Mc w) (hs : ∀ k c, Mi.at k = some c → Mc.at k = some c) (hR : Rep e Mi w)
    (hp : Post Mi.next e Mi w e' Mi' w') (hn : Mi'.next = Mi.next) : e' = e ∧ Post lim e0 M0 w0 e Mc w' := by
  have he : e' = e := funext fun k => hp.env k (by omega)
  subst he
  refine ⟨rfl, h.env, h.le, h.next, h.low, ⟨h.rep.wf, fun k b hk => ?_, h.rep.inj, h.rep.pin, h.rep.pinN, hp.rep.rest⟩, Nat.le_trans h.size hp.size, fun b hb' hno => ?_, h.fresh, h.old, hp.os.trans h.os, hp.tape.trans h.tape, hp.output.trans h.output⟩
  · obtain ⟨p, hpk, hB⟩ := h.rep.blk k b hk
    refine ⟨p, hpk, ?_⟩
    cases hik : Mi.at k with
    | some c =>
      have h1 := hs k c hik
      rw [hk] at h1
      cases h1
      have hlow := hp.low k (hR.wf k _ hik)
      rw [hik] at hlow
      obtain ⟨p', hp', hB'⟩ := hp.rep.blk k b hlow
      rw [hpk] at hp'
      cases hp'
      exact hB'
    | none =>
      refine hB.mono (.refl _) (hp.kept p.1 hB.lt (fun j c q hj hq hqp => ?_))
      have := h.rep.inj j k c b q p (hs j c hj) hk hq hpk hqp
      subst this
      rw [hik] at hj; cases hj
  · have hsz := h.size
    rw [hp.kept b (by omega) ?_, h.kept b hb' hno]
    intro k c p hk hpk
    have hc := hs k c hk
    by_cases hk0 : k < M0.next
    · obtain ⟨d, hd⟩ := h.old k c hk0 hc
      exact hno k d p hd (by rw [← h.env k (.inl hk0)]; exact hpk)
    · rcases h.fresh k c p (by omega) hc hpk with hf | ⟨j, d, q, _, hd, hq, hqp⟩
      · omega
      · rw [← hqp]; exact hno j d q hd hq

def ChainSpec [Ctxt] (P : Program) (call : CallFn) (yld : YldFn) (lim : Nat) (ops : Array Oper) (q : Inf) (o : Oper) (v : CV) (T : Fr) (M M' : Mem) (hidden : Nat → Prop) : Prop :=
  (Region.wanted o (yieldC ops T) = false ∧ v = .clo undef ∧ M' = M) ∨
  (Region.wanted o (yieldC ops T) = true ∧ q.2.1 ≤ 1 ∧ M' = M ∧ ∃ Mi M1, evalOp P call M.next T Mi o = some (v, M1) ∧ Mi.next = M.next ∧ M1.next = M.next ∧
    (Mi.l = [] ∨ (q.2.1 = 1 ∧ q.2.2.2 = false ∧ Mi = M) ∨ (q.2.1 = 1 ∧ ∀ k c, Mi.at k = some c → M.at k = some c ∧ k < M.next ∧ ¬ hidden k))) ∨
  (Region.wanted o (yieldC ops T) = true ∧ q.2.1 = 2 ∧ ∃ M1, evalOp P call M.next T M o = some (v, M1) ∧ M.next ≤ M1.next ∧ M' = joinM M M1) ∨
  (Region.wanted o (yieldC ops T) = true ∧ 3 ≤ q.2.1 ∧ evalOpY P call yld lim T M o = some (v, M'))

theorem chainOp_spec [Ctxt] {P : Program} {call : CallFn} {yld : YldFn} {lim : Nat} {ops : Array Oper} {q : Inf} {as : List (Nat × Nat × Nat)} {T : Fr} {M M' : Mem} {o : Oper} {v : CV}
    (hw : Region.wanted o (yieldC ops T) = true) (h : chainOp P call yld lim q as T M o = some (v, M')) {hidden : Nat → Prop} (hh : ∀ k, hidden k → ∃ x ∈ as, (x.2.1 ≤ k ∧ k < x.2.2) ∧ bitOf q.2.2.1 x.1 = false) :
    ChainSpec P call yld lim ops q o v T M M' hidden := by
  have keep : ∀ {r : Option (CV × Mem)}, keepMem M r = some (v, M') → ∃ M1, r = some (v, M1) ∧ M1.next = M.next ∧ M' = M := by
    intro r hr
    unfold keepMem at hr
    split at hr
    · cases hr
    · rename_i r'
      rw [Bool.cond_eq_ite] at hr
      split at hr
      · rename_i hb
        simp only [Option.some.injEq, Prod.mk.injEq] at hr
        exact ⟨r'.2, by rw [← hr.1], Nat.eq_of_beq_eq_true hb, hr.2.symm⟩
      · cases hr
  unfold chainOp at h
  split at h
  · rename_i hc
    obtain ⟨M1, h1, h2, h3⟩ := keep h
    exact .inr (.inl ⟨hw, by omega, h3, ⟨M.next, []⟩, M1, h1, rfl, h2, .inl rfl⟩)
  · rename_i hc
    obtain ⟨M1, h1, h2, h3⟩ := keep h
    refine .inr (.inl ⟨hw, by omega, h3, readMem q as M, M1, h1, ?_, h2, .inr ?_⟩)
    · unfold readMem
      cases q.2.2.2 <;> rfl
    · unfold readMem
      cases ha : q.2.2.2 with
      | false => exact .inl ⟨hc, rfl, rfl⟩
      | true =>
        refine .inr ⟨hc, fun k c hk => ?_⟩
        rw [cond_true, Mem.at_keep] at hk
        split at hk
        · rename_i hb
          simp only [Bool.and_eq_true, Bool.not_eq_true', blt_iff] at hb
          refine ⟨hk, hb.1, fun hid => ?_⟩
          obtain ⟨x, h1, h2, h3⟩ := hh k hid
          have : as.any (hidA q.2.2.1 k) = true := by
            rw [List.any_eq_true]
            refine ⟨x, h1, ?_⟩
            simp only [hidA, Bool.and_eq_true, Bool.not_eq_true']
            exact ⟨⟨Nat.ble_eq_true_of_le h2.1, Nat.ble_eq_true_of_le h2.2⟩, h3⟩
          rw [this] at hb; exact absurd hb.2 (by simp)
        · cases hk
  · rename_i hc
    unfold joinMem at h
    split at h
    · cases h
    · rename_i r hr
      rw [Bool.cond_eq_ite] at h
      split at h
      · rename_i hb
        simp only [Option.some.injEq, Prod.mk.injEq] at h
        exact .inr (.inr (.inl ⟨hw, hc, r.2, by rw [hr, ← h.1], Nat.le_of_ble_eq_true hb, h.2.symm⟩))
      · cases h
  · rename_i h0 h1 h2
    have h0 : q.2.1 ≠ 0 := fun e => h0 e
    have h1 : q.2.1 ≠ 1 := fun e => h1 e
    have h2 : q.2.1 ≠ 2 := fun e => h2 e
    exact .inr (.inr (.inr ⟨hw, by omega, h⟩))

theorem puts_shift (f : Nat → Bool) : ∀ (l : List (Option Tmp × CV)) (i : Nat) (T : Fr), puts f (i + 1) l T = puts (fun k => f (k + 1)) i l T
  | [], _, _ => rfl
  | x :: r, i, T => by rw [puts, puts, puts_shift f r (i + 1)]

def hiddenAt (qs : List Inf) (as : List (Nat × Nat × Nat)) (ms : Nat → Mem) (j : Nat) (q : Inf) (k : Nat) : Prop :=
  (∃ x ∈ as, (x.2.1 ≤ k ∧ k < x.2.2) ∧ bitOf q.2.2.1 x.1 = false) ∨ (∃ j' q', j' < j ∧ qs[j']? = some q' ∧ q'.2.1 = 2 ∧ ms (j' + 1) ≠ ms j' ∧ ((ms j').next ≤ k ∧ k < (ms (j' + 1)).next) ∧ bitOf q.2.2.1 q'.1 = false)

theorem evalChain_spec [Ctxt] {P : Program} {call : CallFn} {yld : YldFn} {lim : Nat} {ops : Array Oper} : ∀ (l : List Oper) (qs : List Inf) (s : Nat) (as : List (Nat × Nat × Nat)) (T TF : Fr) (M MF : Mem),
    evalChain P call yld lim ops l qs as T M = some (TF, MF) → ∃ (ds : List (Option Tmp × CV)) (ms : Nat → Mem), ds.length = l.length ∧ ms 0 = M ∧ ms l.length = MF ∧ TF = puts (fun _ => true) s ds T ∧
      ∀ j o, l[j]? = some o → ∃ v q, ds[j]? = some (o.dst, v) ∧ qs[j]? = some q ∧ ChainSpec P call yld lim ops q o v (puts (fun k => decide (k < s + j)) s ds T) (ms j) (ms (j + 1)) (hiddenAt qs as ms j q)
  | [], qs, s, as, T, TF, M, MF, h => by
    simp [evalChain] at h
    exact ⟨[], fun _ => M, rfl, rfl, h.2, h.1.symm, fun j o hj => by simp at hj⟩
  | _ :: _, [], s, as, T, TF, M, MF, h => by simp [evalChain] at h
  | o :: r, q :: qs, s, as, T, TF, M, MF, h => by
    have common : ∀ (v : CV) (M1 : Mem) (as1 : List (Nat × Nat × Nat)), evalChain P call yld lim ops r qs as1 (putC T o.dst v) M1 = some (TF, MF) → (∀ x ∈ as, x ∈ as1) → (q.2.1 = 2 → M1 ≠ M → (q.1, M.next, M1.next) ∈ as1) →
        (∀ hidden : Nat → Prop, (∀ k, hidden k → ∃ x ∈ as, (x.2.1 ≤ k ∧ k < x.2.2) ∧ bitOf q.2.2.1 x.1 = false) → ChainSpec P call yld lim ops q o v T M M1 hidden) →
        ∃ (ds : List (Option Tmp × CV)) (ms : Nat → Mem), ds.length = (o :: r).length ∧ ms 0 = M ∧ ms (o :: r).length = MF ∧ TF = puts (fun _ => true) s ds T ∧
          ∀ j o', (o :: r)[j]? = some o' → ∃ v q', ds[j]? = some (o'.dst, v) ∧ (q :: qs)[j]? = some q' ∧ ChainSpec P call yld lim ops q' o' v (puts (fun k => decide (k < s + j)) s ds T) (ms j) (ms (j + 1)) (hiddenAt (q :: qs) as ms j q') := by
      intro v M1 as1 hev ha1 ha2 hsp
      obtain ⟨ds, ms, e1, e2, e3, e4, e5⟩ := evalChain_spec r qs (s + 1) as1 _ TF M1 MF hev
      refine ⟨(o.dst, v) :: ds, fun n => Nat.rec M (fun n _ => ms n) n, by simp [e1], rfl, by simpa using e3, ?_, ?_⟩
      · rw [e4]; rfl
      · intro j o' hj
        cases j with
        | zero =>
          simp at hj; subst hj
          refine ⟨v, q, rfl, rfl, ?_⟩
          have hT : puts (fun k => decide (k < s + 0)) s ((o.dst, v) :: ds) T = T := puts_none _ _ _ _ (fun k h1 _ => by simp; omega)
          rw [hT]
          show ChainSpec P call yld lim ops q o v T M (ms 0) _
          rw [e2]
          refine hsp _ (fun k hk => ?_)
          rcases hk with hk | ⟨j', _, hj', _⟩
          · exact hk
          · omega
        | succ j =>
          obtain ⟨v', q', f1, fq, f2⟩ := e5 j o' (by simpa using hj)
          refine ⟨v', q', by simpa using f1, by simpa using fq, ?_⟩
          have hp : puts (fun k => decide (k < s + (j + 1))) s ((o.dst, v) :: ds) T = puts (fun k => decide (k < s + 1 + j)) (s + 1) ds (putC T o.dst v) := by
            show puts _ (s + 1) ds (cond (decide (s < s + (j + 1))) _ _) = _
            rw [show decide (s < s + (j + 1)) = true by simp, cond_true, show s + (j + 1) = s + 1 + j by omega]
          rw [hp]
          show ChainSpec P call yld lim ops q' o' v' _ (ms j) (ms (j + 1)) _
          have hmono : ∀ k, hiddenAt (q :: qs) as (fun n => Nat.rec M (fun n _ => ms n) n) (j + 1) q' k → hiddenAt qs as1 ms j q' k := by
            intro k hk
            unfold hiddenAt at hk ⊢
            rcases hk with ⟨x, g1, g2⟩ | ⟨j', q'', g1, g2, g3, g4, g5, g6⟩
            · exact .inl ⟨x, ha1 x g1, g2⟩
            · cases j' with
              | zero =>
                simp at g2; subst g2
                have hk : M.next ≤ k ∧ k < (ms 0).next := g5
                rw [e2] at hk
                refine .inl ⟨(q.1, M.next, M1.next), ha2 g3 (fun h => g4 ?_), hk, g6⟩
                show ms 0 = M
                rw [e2, h]
              | succ j' =>
                exact .inr ⟨j', q'', by omega, by simpa using g2, g3, g4, g5, g6⟩
          rcases f2 with f | ⟨a1, a2, a3, Mi, Mj, a4, a5, a6, a7⟩ | f | f
          · exact .inl f
          · refine .inr (.inl ⟨a1, a2, a3, Mi, Mj, a4, a5, a6, ?_⟩)
            rcases a7 with a7 | a7 | ⟨a7, a8⟩
            · exact .inl a7
            · exact .inr (.inl a7)
            · exact .inr (.inr ⟨a7, fun k c hk => ⟨(a8 k c hk).1, (a8 k c hk).2.1, fun hh => (a8 k c hk).2.2 (hmono k hh)⟩⟩)
          · exact .inr (.inr (.inl f))
          · exact .inr (.inr (.inr f))
    simp only [evalChain, Bool.cond_eq_ite] at h
    split at h
    · rename_i hw
      unfold opsPut at h
      split at h
      · cases h
      · rename_i z hz
        refine common z.1 z.2 _ h (fun x hx => ?_) (fun hc _ => ?_) (fun hidden hh => chainOp_spec hw hz hh)
        · unfold putAs
          cases Nat.beq q.2.1 2
          · exact hx
          · exact List.mem_cons_of_mem _ hx
        · unfold putAs
          rw [hc]
          exact List.mem_cons_self ..
    · rename_i hw
      exact common (.clo undef) M as h (fun _ h => h) (fun _ h => absurd rfl h) (fun _ _ => .inl ⟨by simpa using hw, rfl, rfl⟩)

def klOf (qs : List Inf) (i : Nat) : Nat := match qs[i]? with | some q => q.2.1 | none => 0
theorem klOf_get {qs : List Inf} {i : Nat} {q : Inf} (h : qs[i]? = some q) : klOf qs i = q.2.1 := by unfold klOf; rw [h]

theorem yieldOf_congr {T T' : Fr} (o : Oper) (h : SameOn T T' o.op.operands.toList) : yieldOf T o = yieldOf T' o := by
  unfold yieldOf
  split
  · rename_i c hc
    split
    · rename_i f hf
      have : opd T f = opd T' f := h f (by rw [hc]; simp [Op.operands, Call.operands, hf])
      rw [this]
    · rfl
  · rfl

theorem evalOpY_congr [Ctxt] (P : Program) (call : CallFn) (yld : YldFn) (lim : Nat) {T T' : Fr} (M : Mem) (o : Oper) (h : SameOn T T' o.op.operands.toList) : evalOpY P call yld lim T M o = evalOpY P call yld lim T' M o := by
  unfold evalOpY
  rw [← yieldOf_congr o h]
  split
  · rename_i q hq
    obtain ⟨c, f, hc, hf, _, hq2⟩ := yieldOf_some hq
    rw [map_opd_congr (l := q.2) fun x hx => h x (by rw [hc]; rw [hq2] at hx; simp [Op.operands, Call.operands]; exact .inr (by simpa using hx))]
  · exact evalOp_congr P call lim M o h

/-- All that is known of a chain that has been worked out. -/
structure CC [Ctxt] (P : Program) (call : CallFn) (yld : YldFn) (lim : Nat) (ops : Array Oper) (cls : List (List Nat)) (cl : List Inf) (T0 : Fr) (M0 MF : Mem) (ds : List (Option Tmp × CV)) (ms : Nat → Mem) : Prop where
  hcls : ∀ i, i < ops.size → cls.getD i [] = (closures ops.toList).getD i []
  c1 : ∀ i o, ops[i]? = some o → ∀ j ∈ ons o, j < i
  c2 : ∀ i o j o', ops[i]? = some o → ops[j]? = some o' → i ≠ j → j ∉ cls.getD i [] → i ∉ cls.getD j [] → ∀ d, o'.dst = some d → d ∉ o.looksAt ops ∧ o.dst ≠ some d
  dlen : ds.length = ops.size
  m0 : ms 0 = M0
  mF : ms ops.size = MF
  spec : ∀ i o, ops[i]? = some o → ∃ v q, ds[i]? = some (o.dst, v) ∧ cl[i]? = some q ∧ ChainSpec P call yld lim ops q o v (puts (fun k => decide (k < i)) 0 ds T0) (ms i) (ms (i + 1)) (hiddenAt cl [] ms i q)
  qcls : ∀ i q, cl[i]? = some q → q.1 = i ∧ ∀ j, j < ops.size → bitOf q.2.2.1 j = true → j ∈ cls.getD i []
  ord : ∀ i j oi oj, ops[i]? = some oi → ops[j]? = some oj → i ≠ j → 1 ≤ klOf cl i → 1 ≤ klOf cl j → 4 ≤ klOf cl i + klOf cl j → i ∈ cls.getD j [] ∨ j ∈ cls.getD i []
  una : ∀ i j q oj, cl[i]? = some q → q.2.1 = 1 → q.2.2.2 = false → ops[j]? = some oj → klOf cl j = 2 → j ∈ cls.getD i [] ∨ i ∈ cls.getD j []
  mono : ∀ i, i < ops.size → (ms i).next ≤ (ms (i + 1)).next

section
variable {P : Program} {call : CallFn} {yld : YldFn} {lim : Nat} {ops : Array Oper} {cls : List (List Nat)} {cl : List Inf} {T0 : Fr} {M0 MF : Mem} {ds : List (Option Tmp × CV)} {ms : Nat → Mem}

theorem CC.still [Ctxt] (C : CC P call yld lim ops cls cl T0 M0 MF ds ms) {a b : Nat} (hab : a ≤ b) (hb : b ≤ ops.size) (h : ∀ j o, a ≤ j → j < b → ops[j]? = some o → klOf cl j ≤ 1) : ms b = ms a := by
  induction b with
  | zero => have : a = 0 := by omega
            subst this; rfl
  | succ b ih =>
    by_cases hb' : a = b + 1
    · subst hb'; rfl
    · have h1 := ih (by omega) (by omega) (fun j o h1 h2 => h j o h1 (by omega))
      rw [← h1]
      have hin : b < ops.size := by omega
      have hc := h b ops[b] (by omega) (by omega) (by simp [hin])
      obtain ⟨v, q, _, hq, hs⟩ := C.spec b ops[b] (by simp [hin])
      rw [klOf_get hq] at hc
      rcases hs with ⟨_, _, h⟩ | ⟨_, _, h, _⟩ | ⟨_, h, _⟩ | ⟨_, h, _⟩
      · exact h
      · exact h
      · omega
      · omega

theorem CC.next_le [Ctxt] (C : CC P call yld lim ops cls cl T0 M0 MF ds ms) {a b : Nat} (hab : a ≤ b) (hb : b ≤ ops.size) : (ms a).next ≤ (ms b).next := by
  induction b with
  | zero => have : a = 0 := by omega
            subst this; exact Nat.le_refl _
  | succ b ih =>
    by_cases hb' : a = b + 1
    · subst hb'; exact Nat.le_refl _
    · exact Nat.le_trans (ih (by omega) (by omega)) (C.mono b (by omega))

/-- Where the region stands when the operations of `L` have been carried out. -/
def InvC [Ctxt] (lim : Nat) (ops : Array Oper) (cl : List Inf) (T0 : Fr) (M0 : Mem) (ds : List (Option Tmp × CV)) (ms : Nat → Mem) (e0 : Env) (w0 : World) (L : Nat → Bool) (a : Act) (w : World) : Prop :=
  ∃ e n, DT e (puts L 0 ds T0) a ∧ DF e T0 a ∧ n ≤ ops.size ∧ (∀ j o, ops[j]? = some o → 2 ≤ klOf cl j → (L j = true ↔ j < n)) ∧ Post lim e0 M0 w0 e (ms n) w

set_option maxHeartbeats 1000000 in
theorem CC.step [Ctxt] (C : CC P call yld lim ops cls cl T0 M0 MF ds ms) (hcall : CallOK P call) (hyl : YldOK P yld) (hpl : Ctxt.pin ≤ lim) (hlim : lim ≤ M0.next) {e0 : Env} {w0 : World} (hnone : ∀ k, M0.next ≤ k → k < MF.next → e0 k = none)
    {L : Nat → Bool} {a : Act} {w : World} {i : Nat} {o : Oper} (ho : ops[i]? = some o) (hLi : L i = false)
    (hdown : ∀ j o', ops[j]? = some o' → L j = true → ∀ j' ∈ ons o', L j' = true) (hready : ∀ j ∈ ons o, L j = true) (hI : InvC lim ops cl T0 M0 ds ms e0 w0 L a w)
    {Q : Exit → Act → World → Prop} {K : Act → World → Prop} (hK : ∀ a' w', InvC lim ops cl T0 M0 ds ms e0 w0 (updL L i) a' w' → K a' w') (ro : Option Nat) (nn : Nat) : wpOpIn (FW ro) nn P ops Q i K a w := by
  obtain ⟨e, n, hT, hd, hnle, hn, hp⟩ := hI
  obtain ⟨v, q, hdi, hqi, hcase⟩ := C.spec i o ho
  have hkl := klOf_get hqi
  unfold ChainSpec at hcase
  rw [← hkl] at hcase
  have hin : i < ops.size := (Array.getElem?_eq_some_iff.1 ho).1
  have clsL : ∀ j ∈ cls.getD i [], L j = true := cls_listed C.hcls C.c1 (L := fun j => L j = true) hdown i o ho hready
  have clsOf : ∀ k ok, ops[k]? = some ok → L k = true → ∀ j ∈ cls.getD k [], L j = true := fun k ok hk hLk => cls_listed C.hcls C.c1 (L := fun j => L j = true) hdown k ok hk (hdown k ok hk hLk)
  have notIn : ∀ k ok, ops[k]? = some ok → L k = true → i ∉ cls.getD k [] := fun k ok hk hLk hm => by
    have := clsOf k ok hk hLk i hm; rw [hLi] at this; cases this
  have lt : ∀ k ok, ops[k]? = some ok → ∀ j ∈ cls.getD k [], j < k := cls_lt C.hcls C.c1
  have ofD : ∀ k x, ds[k]? = some x → ∃ (ok : Oper) (vk : CV), ops[k]? = some ok ∧ x = (ok.dst, vk) := fun k x hx => by
    have hk : k < ops.size := by rw [← C.dlen]; exact (List.getElem?_eq_some_iff.1 hx).1
    obtain ⟨vk, _, h1, _⟩ := C.spec k ops[k] (Array.getElem?_eq_getElem hk)
    rw [hx] at h1; cases h1
    exact ⟨ops[k], vk, Array.getElem?_eq_getElem hk, rfl⟩
  -- the frame as the operation sees it
  have hframe : ∀ t ∈ o.looksAt ops, (puts L 0 ds T0).get t = (puts (fun k => decide (k < i)) 0 ds T0).get t := by
    intro t ht
    refine puts_get _ 0 T0 T0 rfl rfl (fun k x hx hne hxt => ?_)
    obtain ⟨ok, vk, g1, rfl⟩ := ofD k x hx
    simp only [Nat.zero_add] at hne
    have hki : k ≠ i := fun h => by subst h; rw [hLi] at hne; simp at hne
    have hno : k ∉ cls.getD i [] ∧ i ∉ cls.getD k [] := by
      cases hLk : L k with
      | true =>
        rw [hLk] at hne
        have : ¬ k < i := by simpa using hne
        exact ⟨fun h => by have := lt i o ho k h; omega, notIn k ok g1 hLk⟩
      | false =>
        rw [hLk] at hne
        have : k < i := by simpa using hne
        exact ⟨(fun h => by have := clsL k h; rw [hLk] at this; cases this), fun h => by have := lt k ok g1 i h; omega⟩
    exact (C.c2 i o k ok ho g1 (Ne.symm hki) hno.1 hno.2 t hxt).1 ht
  have hfn : (puts L 0 ds T0).n = (puts (fun k => decide (k < i)) 0 ds T0).n := by rw [puts_n, puts_n]
  have hwant : Region.wanted o (yielded ops a.tmps) = Region.wanted o (yieldC ops (puts (fun k => decide (k < i)) 0 ds T0)) := by
    rw [← yieldC_congr ops o hfn hframe]
    congr 1
    funext j
    exact (yieldC_eq hT ops j).symm
  -- the frame behind it
  have hput : ∀ {e' : Env} {u : Value}, Env.le e e' → den e' v = some u → DT e' (puts (updL L i) 0 ds T0) (a.put o.dst u) := by
    intro e' u hle hu
    refine ((hT.mono hle).putC hu o.dst).congr (by rw [puts_n, putC_n, puts_n]) (fun t => ?_)
    rw [putC_get, puts_n]
    split
    · rename_i h
      refine puts_last (m := i) _ 0 T0 (by rw [hdi, h.1]) (by simp [updL]) h.2 (fun k x hk hx hf hxt => ?_)
      obtain ⟨ok, vk, g1, rfl⟩ := ofD k x hx
      simp only [Nat.zero_add, updL] at hf
      rw [if_neg (by omega)] at hf
      exact (C.c2 i o k ok ho g1 (by omega) (fun h => by have := lt i o ho k h; omega) (notIn k ok g1 hf) t hxt).2 h.1
    · rename_i h
      by_cases ht : t < T0.n
      · refine puts_get _ 0 T0 T0 rfl rfl (fun k x hx hne hxt => ?_)
        simp only [Nat.zero_add, updL] at hne
        split at hne
        · rename_i hk
          subst hk
          rw [hdi] at hx; cases hx
          exact h ⟨hxt, ht⟩
        · exact hne rfl
      · rw [puts_out _ _ _ (by omega), puts_out _ _ _ (by omega)]
  -- an operation of the chain
  have inChain : 2 ≤ klOf cl i → ms i = ms n ∧ ∀ j oj, ops[j]? = some oj → 2 ≤ klOf cl j → (updL L i j = true ↔ j < i + 1) := by
    intro hc
    have hord : ∀ j oj, ops[j]? = some oj → 2 ≤ klOf cl j → j ≠ i → (L j = true ↔ j < i) := fun j oj hj hcj hne => by
      rcases C.ord i j o oj ho hj (Ne.symm hne) (by omega) (by omega) (by omega) with h | h
      · have := lt j oj hj i h
        exact ⟨fun hL => absurd h (notIn j oj hj hL), fun _ => by omega⟩
      · have := lt i o ho j h
        exact ⟨fun _ => this, fun _ => clsL j h⟩
    have hni : n ≤ i := by
      rcases Nat.lt_or_ge i n with h | h
      · have := (hn i o ho hc).2 h; rw [hLi] at this; cases this
      · exact h
    refine ⟨C.still hni (by omega) (fun j oj h1 h2 hj => ?_), fun j oj hj hcj => ?_⟩
    · rcases Nat.lt_or_ge 1 (klOf cl j) with h | h
      · have g1 := (hord j oj hj h (by omega)).2 h2
        have := (hn j oj hj h).1 g1; omega
      · exact h
    · by_cases hji : j = i
      · subst hji; simp [updL]
      · have := hord j oj hj hcj hji
        simp only [updL]; rw [if_neg hji, this]; omega
  have offChain : klOf cl i ≤ 1 → ∀ j oj, ops[j]? = some oj → 2 ≤ klOf cl j → (updL L i j = true ↔ j < n) := fun hc j oj hj hcj => by
    have hji : j ≠ i := fun h => by subst h; rw [ho] at hj; cases hj; omega
    simp only [updL]; rw [if_neg hji]; exact hn j oj hj hcj
  unfold wpOpIn
  simp only [ho]
  rcases hcase with ⟨hw, hv, hm⟩ | ⟨hw, hc, hm, Mi, M1, hev, hMi, hM1, hsub⟩ | ⟨hw, hc, M1, hev, hx1, hm⟩ | ⟨hw, hc, hev⟩
  · -- not wanted
    rw [hwant, hw]
    simp only [Bool.false_eq_true, if_false]
    refine ⟨fun _ _ => trivial, hK _ _ ?_⟩
    rcases Nat.lt_or_ge 1 (klOf cl i) with hc | hc
    · obtain ⟨g1, g2⟩ := inChain hc
      exact ⟨e, i + 1, hput (.refl e) (by rw [hv]; rfl), hd.put (.refl e) _ _, hin, g2, by rw [hm, g1]; exact hp⟩
    · exact ⟨e, n, hput (.refl e) (by rw [hv]; rfl), hd.put (.refl e) _ _, hnle, offChain hc, hp⟩
  · -- an operation that looks
    rw [hwant, hw]
    simp only [if_true]
    have hevop : evalOp P call (ms i).next (puts L 0 ds T0) Mi o = some (v, M1) := by
      rw [evalOp_congr P call (ms i).next Mi o (sameOn_of_looks ops o hframe)]; exact hev
    have far3 : klOf cl i = 1 → ∀ j oj, ops[j]? = some oj → 3 ≤ klOf cl j → ¬ (n ≤ j ∧ j < i) ∧ ¬ (i ≤ j ∧ j < n) := fun h1 j oj hj h3 => by
      have hji : j ≠ i := fun h => by subst h; rw [ho] at hj; cases hj; omega
      have hL := hn j oj hj (by omega)
      rcases C.ord i j o oj ho hj (Ne.symm hji) (by omega) (by omega) (by omega) with h | h
      · have h4 := lt j oj hj i h
        refine ⟨fun h5 => by omega, fun h5 => ?_⟩
        exact absurd h (notIn j oj hj (hL.2 h5.2))
      · have h4 := lt i o ho j h
        exact ⟨fun h5 => by have := hL.1 (clsL j h); omega, fun h5 => by omega⟩
    have hsubN : ∀ k c, Mi.at k = some c → (ms n).at k = some c := by
      intro k c hk
      rcases hsub with h | ⟨h1, h2, h3⟩ | ⟨h1, h2⟩
      · unfold Mem.at at hk; rw [h] at hk; cases hk
      · have far2 : ∀ j oj, ops[j]? = some oj → 2 ≤ klOf cl j → ¬ (n ≤ j ∧ j < i) ∧ ¬ (i ≤ j ∧ j < n) := fun j oj hj hcj => by
          rcases Nat.lt_or_ge 2 (klOf cl j) with h | h
          · exact far3 h1 j oj hj (by omega)
          · have hji : j ≠ i := fun h => by subst h; rw [ho] at hj; cases hj; omega
            have hL := hn j oj hj hcj
            rcases C.una i j q oj hqi (by omega) h2 hj (by omega) with h | h
            · have h4 := lt i o ho j h
              exact ⟨fun h5 => by have := hL.1 (clsL j h); omega, fun h5 => by omega⟩
            · have h4 := lt j oj hj i h
              refine ⟨fun h5 => by omega, fun h5 => ?_⟩
              exact absurd h (notIn j oj hj (hL.2 h5.2))
        have heq : ms n = ms i := by
          rcases Nat.lt_or_ge n i with h | h
          · exact (C.still (by omega) (by omega) (fun j oj g1 g2 hj => by
              rcases Nat.lt_or_ge 1 (klOf cl j) with h5 | h5
              · exact absurd ⟨g1, g2⟩ (far2 j oj hj h5).1
              · exact h5)).symm
          · exact C.still h hnle (fun j oj g1 g2 hj => by
              rcases Nat.lt_or_ge 1 (klOf cl j) with h5 | h5
              · exact absurd ⟨g1, g2⟩ (far2 j oj hj h5).2
              · exact h5)
        rw [heq, ← h3]; exact hk
      · obtain ⟨g1, g2, g3⟩ := h2 k c hk
        rcases Nat.lt_or_ge i n with hlt | hge
        · -- makers behind it have come first
          have up : ∀ d, i + d ≤ n → (ms (i + d)).at k = some c ∧ k < (ms (i + d)).next := by
            intro d
            induction d with
            | zero => exact fun _ => ⟨g1, g2⟩
            | succ d ih =>
              intro hdn
              obtain ⟨f1, f2⟩ := ih (by omega)
              have hjn : i + d < ops.size := by omega
              have hmono := C.mono (i + d) hjn
              obtain ⟨vj, qj, _, hqj, hs⟩ := C.spec (i + d) ops[i + d] (by simp [hjn])
              have hklj := klOf_get hqj
              show (ms (i + d + 1)).at k = some c ∧ k < (ms (i + d + 1)).next
              refine ⟨?_, by omega⟩
              rcases hs with ⟨_, _, h⟩ | ⟨_, _, h, _⟩ | ⟨_, h, M2, _, _, hj⟩ | ⟨_, h, _⟩
              · rw [h]; exact f1
              · rw [h]; exact f1
              · rw [hj, at_joinR, if_neg (by omega), if_pos f2]; exact f1
              · exact absurd ⟨by omega, by omega⟩ (far3 h1 (i + d) ops[i + d] (by simp [hjn]) (by omega)).2
          have := (up (n - i) (by omega)).1
          rwa [show i + (n - i) = n by omega] at this
        · -- makers before it have not come yet
          have dn : ∀ d, n + d ≤ i → (ms (i - d)).at k = some c := by
            intro d
            induction d with
            | zero => exact fun _ => g1
            | succ d ih =>
              intro hdn
              have f1 := ih (by omega)
              obtain ⟨j, hj⟩ : ∃ j, i - d = j + 1 := ⟨i - d - 1, by omega⟩
              have hjd : i - (d + 1) = j := by omega
              have hjn : j < ops.size := by omega
              rw [hj] at f1
              rw [hjd]
              obtain ⟨vj, qj, _, hqj, hs⟩ := C.spec j ops[j] (by simp [hjn])
              have hklj := klOf_get hqj
              rcases hs with ⟨_, _, h⟩ | ⟨_, _, h, _⟩ | ⟨_, h, M2, _, hx1, hjm⟩ | ⟨_, h, _⟩
              · rw [h] at f1; exact f1
              · rw [h] at f1; exact f1
              · by_cases hsame : ms (j + 1) = ms j
                · rw [hsame] at f1; exact f1
                · rw [hjm, at_joinR] at f1
                  split at f1
                  · rename_i hiv
                    refine absurd (.inr ⟨j, qj, by omega, hqj, h, hsame, ⟨hiv.1, by rw [hjm]; exact hiv.2⟩, ?_⟩) g3
                    cases hm : bitOf q.2.2.1 qj.1 with
                    | false => rfl
                    | true =>
                      have hqix := (C.qcls j qj hqj).1
                      rw [hqix] at hm
                      have hL := (hn j ops[j] (by simp [hjn]) (by omega)).1 (clsL j ((C.qcls i q hqi).2 j hjn hm))
                      omega
                  · split at f1
                    · exact f1
                    · cases f1
              · exact absurd ⟨by omega, by omega⟩ (far3 h1 j ops[j] (by simp [hjn]) (by omega)).1
          have := dn (i - n) (by omega)
          rwa [show i - (i - n) = n by omega] at this
    have hRi : Rep e Mi w := by
      refine hp.rep.sub (fun k c hk => ⟨hsubN k c hk, ?_⟩) ?_
      · rcases hsub with h | ⟨h1, h2, h3⟩ | ⟨h1, h2⟩
        · unfold Mem.at at hk; rw [h] at hk; cases hk
        · have := hp.rep.wf k c (hsubN k c hk)
          have far2 : ms n = ms i ∨ True := .inr trivial
          rcases Nat.lt_or_ge n i with hl | hl
          · have := C.next_le (Nat.le_of_lt hl) (by omega); omega
          · -- nothing of the chain lies between them
            have heq : (ms n).next = (ms i).next := by
              congr 1
              refine C.still hl hnle (fun j oj g1 g2 hj => ?_)
              rcases Nat.lt_or_ge 1 (klOf cl j) with h5 | h5
              · rcases Nat.lt_or_ge 2 (klOf cl j) with h | h
                · exact absurd ⟨g1, g2⟩ (far3 h1 j oj hj (by omega)).2
                · have hji : j ≠ i := fun h => by subst h; rw [ho] at hj; cases hj; omega
                  rcases C.una i j q oj hqi (by omega) h2 hj (by omega) with h | h
                  · have h4 := lt i o ho j h; omega
                  · exact absurd h (notIn j oj hj ((hn j oj hj h5).2 g2))
              · exact h5
            omega
        · have := (h2 k c hk).2.1; omega
      · have h1 := hp.rep.pinN
        have h2 := C.next_le (Nat.zero_le i) (by omega)
        rw [C.m0] at h2
        omega
    have hok := evalOp_ok hcall hevop hT hRi ⟨by
      have h2 := C.next_le (Nat.zero_le i) (by omega)
      rw [C.m0] at h2; omega, by omega⟩ (fun k h1 h2 => by omega)
    refine (hok ro nn K Q fun e' w' u hu hpost => hK _ _ ?_)
    obtain ⟨he, hp'⟩ := post_read hp hsubN hRi (by rw [hMi]; exact hpost) (by omega)
    subst he
    exact ⟨e', n, hput (.refl _) hu, hd.put (.refl _) _ _, hnle, offChain hc, hp'⟩
  · -- an operation that makes a block
    rw [hwant, hw]
    simp only [if_true]
    obtain ⟨g1, g2⟩ := inChain (by omega)
    have hmn : (ms (i + 1)).next = M1.next := by rw [hm]; rfl
    have hF := C.next_le (show i + 1 ≤ ops.size from hin) (Nat.le_refl _)
    rw [C.mF] at hF
    have h0 := C.next_le (Nat.zero_le i) (by omega)
    rw [C.m0] at h0
    have hevop : evalOp P call (ms i).next (puts L 0 ds T0) (ms i) o = some (v, M1) := by
      rw [evalOp_congr P call (ms i).next (ms i) o (sameOn_of_looks ops o hframe)]; exact hev
    have hp1 : Post lim e0 M0 w0 e (ms i) w := by rw [g1]; exact hp
    have hok := evalOp_ok hcall hevop hT hp1.rep ⟨by omega, Nat.le_refl _⟩ (fun k h1 h2 => by
      rw [hp1.env k (.inr h1)]; exact hnone k (by omega) (by omega))
    refine (hok ro nn K Q fun e' w' u hu hpost => hK _ _ ?_)
    refine ⟨e', i + 1, hput hpost.le hu, hd.put hpost.le _ _, hin, g2, hp1.trans ?_⟩
    refine (hpost.weaken (show lim ≤ (ms i).next by omega)).congr hmn (fun k => ?_)
    rw [hm, at_joinR]
    split
    · rfl
    · rename_i hk
      split
      · rename_i hk'
        exact (hpost.low k hk').symm
      · rename_i hk'
        cases hmk : M1.at k with
        | none => rfl
        | some c => have := hpost.rep.wf k c hmk; omega
  · -- any other operation
    rw [hwant, hw]
    simp only [if_true]
    obtain ⟨g1, g2⟩ := inChain (by omega)
    have hF := C.next_le (show i + 1 ≤ ops.size from hin) (Nat.le_refl _)
    rw [C.mF] at hF
    have h0 := C.next_le (Nat.zero_le i) (by omega)
    rw [C.m0] at h0
    have hevop : evalOpY P call yld lim (puts L 0 ds T0) (ms i) o = some (v, ms (i + 1)) := by
      rw [evalOpY_congr P call yld lim (ms i) o (sameOn_of_looks ops o hframe)]; exact hev
    have hp1 : Post lim e0 M0 w0 e (ms i) w := by rw [g1]; exact hp
    have hok := evalOpY_ok hcall hyl hevop hT hp1.rep ⟨hpl, by omega⟩ (fun k h1 h2 => by
      rw [hp1.env k (.inr h1)]; exact hnone k (by omega) (by omega))
    exact (hok ro nn K Q fun e' w' u hu hpost => hK _ _ ⟨e', i + 1, hput hpost.le hu, hd.put hpost.le _ _, hin, g2, hp1.trans hpost⟩)

end

end Go.Ev
