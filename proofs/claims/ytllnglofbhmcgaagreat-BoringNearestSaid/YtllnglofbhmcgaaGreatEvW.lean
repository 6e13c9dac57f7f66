/- A closed call is worked out by a program of its own: a region whose operations stand in a chain, but for those that only look. -/
import Derived.Test.YtllnglofbhmcgaaGreatEvK
namespace Go.Ev

theorem at_joinR [Ctxt] (M M' : Mem) (k : Nat) : (joinM M M').at k = if M.next ≤ k ∧ k < M'.next then M'.at k else if k < M.next then M.at k else none := by
  have happ : ∀ (l l' : List (Nat × Blk)), look (l ++ l') k = (look l k).or (look l' k) := by
    intro l l'
    induction l with
    | nil => simp [look_nil]
    | cons x r ih =>
      rw [List.cons_append, look_cons, look_cons, ih]
      cases Nat.beq x.1 k <;> simp
  have hj : (joinM M M').at k = (if (Nat.ble M.next k && Nat.blt k M'.next) = true then look M'.l k else none).or (if Nat.blt k M.next = true then look M.l k else none) := by
    simp only [joinM, Mem.at, happ, look_keepL]
  rw [hj]
  show _ = if M.next ≤ k ∧ k < M'.next then look M'.l k else if k < M.next then look M.l k else none
  rcases Nat.lt_or_ge k M.next with h | h
  · have h1 : Nat.ble M.next k = false := by cases hb : Nat.ble M.next k with | false => rfl | true => exact absurd (Nat.le_of_ble_eq_true hb) (by omega)
    have h2 : Nat.blt k M.next = true := Nat.ble_eq_true_of_le h
    rw [if_neg (show ¬ (M.next ≤ k ∧ k < M'.next) by omega), h1, h2, if_pos h]
    rfl
  · have h1 : Nat.ble M.next k = true := Nat.ble_eq_true_of_le h
    have h2 : Nat.blt k M.next = false := by cases hb : Nat.blt k M.next with | false => rfl | true => exact absurd (Nat.le_of_ble_eq_true hb) (by omega)
    rcases blt_cases k M'.next with ⟨h4, h5⟩ | ⟨h4, h5⟩
    · rw [if_pos (show M.next ≤ k ∧ k < M'.next from ⟨h, h5⟩), h1, h2, h4]; simp
    · rw [if_neg (show ¬ (M.next ≤ k ∧ k < M'.next) by omega), if_neg (show ¬ k < M.next by omega), h1, h2, h4]; rfl

/-- A step that only looks at part of the memory, and changes nothing of it. -/
theorem post_read [Ctxt] {lim : Nat} {e0 e e' : Env} {M0 Mc Mi Mi' : Mem} {w0 w w' : World} (h : Post lim e0 M0 w0 e Mc w) (hs : ∀ k c, Mi.at k = some c → Mc.at k = some c) (hR : Rep e Mi w)
    (hp : Post Mi.next e Mi w e' Mi' w') (hn : Mi'.next = Mi.next) : e' = e ∧ Post lim e0 M0 w0 e Mc w' := by
  have he : e' = e := funext fun k => hp.env k (by omega)
  subst he
  refine ⟨rfl, h.env, h.le, h.next, h.low, ⟨h.rep.wf, fun k b hk => ?_, h.rep.inj, h.rep.pin, h.rep.pinN, hp.rep.rest⟩, Nat.le_trans h.size hp.size, fun b hb' hno => ?_, h.fresh, h.old, hp.os.trans h.os, hp.tape.trans h.tape, hp.output.trans h.output⟩
  · obtain ⟨p, hpk, hB⟩ := h.rep.blk k b hk
    refine ⟨p, hpk, ?_⟩
    cases hik : Mi.at k with
    | some c =>
      have h1 := hs k c hik
      rw [hk] at h1
      cases h1
      have hlow := hp.low k (hR.wf k _ hik)
      rw [hik] at hlow
      obtain ⟨p', hp', hB'⟩ := hp.rep.blk k b hlow
      rw [hpk] at hp'
      cases hp'
      exact hB'
    | none =>
      refine hB.mono (.refl _) (hp.kept p.1 hB.lt (fun j c q hj hq hqp => ?_))
      have := h.rep.inj j k c b q p (hs j c hj) hk hq hpk hqp
      subst this
      rw [hik] at hj; cases hj
  · have hsz := h.size
    rw [hp.kept b (by omega) ?_, h.kept b hb' hno]
    intro k c p hk hpk
    have hc := hs k c hk
    by_cases hk0 : k < M0.next
    · obtain ⟨d, hd⟩ := h.old k c hk0 hc
      exact hno k d p hd (by rw [← h.env k (.inl hk0)]; exact hpk)
    · rcases h.fresh k c p (by omega) hc hpk with hf | ⟨j, d, q, _, hd, hq, hqp⟩
      · omega
      · rw [← hqp]; exact hno j d q hd hq

def ChainSpec [Ctxt] (P : Program) (call : CallFn) (yld : YldFn) (lim : Nat) (ops : Array Oper) (q : Inf) (o : Oper) (v : CV) (T : Fr) (M M' : Mem) (hidden : Nat → Prop) : Prop :=
  (Region.wanted o (yieldC ops T) = true ∧ q.2.1 ≤ 1 ∧ M' = M ∧ ∃ Mi M1, evalOp P call M.next T Mi o = some (v, M1) ∧ Mi.next = M.next ∧ M1.next = M.next ∧
    (Mi.l = [] ∨ (q.2.1 = 1 ∧ q.2.2.2 = false ∧ Mi = M) ∨ (q.2.1 = 1 ∧ ∀ k c, Mi.at k = some c → M.at k = some c ∧ k < M.next ∧ ¬ hidden k))) ∨
  (Region.wanted o (yieldC ops T) = true ∧ q.2.1 = 2 ∧ ∃ M1, evalOp P call M.next T M o = some (v, M1) ∧ M.next ≤ M1.next ∧ M' = joinM M M1) ∨
  (Region.wanted o (yieldC ops T) = true ∧ 3 ≤ q.2.1 ∧ evalOpY P call yld lim T M o = some (v, M'))
/-- What has been noted of one operation, stores among them. -/
def ChainAt [Ctxt] (P : Program) (call : CallFn) (yld : YldFn) (lim : Nat) (ops : Array Oper) (sts : List Sto) (i : Nat) (q : Inf) (o : Oper) (v : CV) (T : Fr) (M M' : Mem) (hidden : Nat → Prop) : Prop :=
  ((∀ s ∈ sts, s.ix ≠ i) ∧ Region.wanted o (yieldC ops T) = false ∧ v = .clo undef ∧ M' = M) ∨
  ((∀ s ∈ sts, s.ix ≠ i) ∧ q.2.1 ≠ 5 ∧ ChainSpec P call yld lim ops q o v T M M' hidden) ∨
  (Region.wanted o (yieldC ops T) = true ∧ q.2.1 = 5 ∧ v = .clo undef ∧ M' = M ∧ ∃ s ∈ sts, s.ix = i ∧ ∃ t x y, o.op = .store t x y ∧ s.ty = t ∧ opd T x = .ptr s.nm s.off ∧ s.cs = (opd T y).cells)

theorem chainOp_spec [Ctxt] {P : Program} {call : CallFn} {yld : YldFn} {lim : Nat} {ops : Array Oper} {q : Inf} {as : List (Nat × Nat × Nat)} {T : Fr} {M M' : Mem} {o : Oper} {v : CV}
    (hw : Region.wanted o (yieldC ops T) = true) (h : chainOp P call yld lim q as T M o = some (v, M')) {hidden : Nat → Prop} (hh : ∀ k, hidden k → ∃ x ∈ as, (x.2.1 ≤ k ∧ k < x.2.2) ∧ bitOf q.2.2.1 x.1 = false) :
    ChainSpec P call yld lim ops q o v T M M' hidden := by
  have keep : ∀ {r : Option (CV × Mem)}, keepMem M r = some (v, M') → ∃ M1, r = some (v, M1) ∧ M1.next = M.next ∧ M' = M := by
    intro r hr
    unfold keepMem at hr
    split at hr
    · cases hr
    · rename_i r'
      rw [Bool.cond_eq_ite] at hr
      split at hr
      · rename_i hb
        simp only [Option.some.injEq, Prod.mk.injEq] at hr
        exact ⟨r'.2, by rw [← hr.1], Nat.eq_of_beq_eq_true hb, hr.2.symm⟩
      · cases hr
  unfold chainOp at h
  split at h
  · rename_i hc
    obtain ⟨M1, h1, h2, h3⟩ := keep h
    exact .inl ⟨hw, by omega, h3, ⟨M.next, []⟩, M1, h1, rfl, h2, .inl rfl⟩
  · rename_i hc
    obtain ⟨M1, h1, h2, h3⟩ := keep h
    refine .inl ⟨hw, by omega, h3, readMem q as M, M1, h1, ?_, h2, .inr ?_⟩
    · unfold readMem
      cases q.2.2.2 <;> rfl
    · unfold readMem
      cases ha : q.2.2.2 with
      | false => exact .inl ⟨hc, rfl, rfl⟩
      | true =>
        refine .inr ⟨hc, fun k c hk => ?_⟩
        rw [cond_true, Mem.at_keep] at hk
        split at hk
        · rename_i hb
          simp only [Bool.and_eq_true, Bool.not_eq_true', blt_iff] at hb
          refine ⟨hk, hb.1, fun hid => ?_⟩
          obtain ⟨x, h1, h2, h3⟩ := hh k hid
          have : as.any (hidA q.2.2.1 k) = true := by
            rw [List.any_eq_true]
            refine ⟨x, h1, ?_⟩
            simp only [hidA, Bool.and_eq_true, Bool.not_eq_true']
            exact ⟨⟨Nat.ble_eq_true_of_le h2.1, Nat.ble_eq_true_of_le h2.2⟩, h3⟩
          rw [this] at hb; exact absurd hb.2 (by simp)
        · cases hk
  · rename_i hc
    unfold joinMem at h
    split at h
    · cases h
    · rename_i r hr
      rw [Bool.cond_eq_ite] at h
      split at h
      · rename_i hb
        simp only [Option.some.injEq, Prod.mk.injEq] at h
        exact .inr (.inl ⟨hw, hc, r.2, by rw [hr, ← h.1], Nat.le_of_ble_eq_true hb, h.2.symm⟩)
      · cases h
  · rename_i h0 h1 h2
    have h0 : q.2.1 ≠ 0 := fun e => h0 e
    have h1 : q.2.1 ≠ 1 := fun e => h1 e
    have h2 : q.2.1 ≠ 2 := fun e => h2 e
    exact .inr (.inr ⟨hw, by omega, h⟩)

theorem puts_shift (f : Nat → Bool) : ∀ (l : List (Option Tmp × CV)) (i : Nat) (T : Fr), puts f (i + 1) l T = puts (fun k => f (k + 1)) i l T
  | [], _, _ => rfl
  | x :: r, i, T => by rw [puts, puts, puts_shift f r (i + 1)]

def hiddenAt (qs : List Inf) (as : List (Nat × Nat × Nat)) (ms : Nat → Mem) (j : Nat) (q : Inf) (k : Nat) : Prop :=
  (∃ x ∈ as, (x.2.1 ≤ k ∧ k < x.2.2) ∧ bitOf q.2.2.1 x.1 = false) ∨ (∃ j' q', j' < j ∧ qs[j']? = some q' ∧ q'.2.1 = 2 ∧ ms (j' + 1) ≠ ms j' ∧ ((ms j').next ≤ k ∧ k < (ms (j' + 1)).next) ∧ bitOf q.2.2.1 q'.1 = false)

theorem evalChain_spec [Ctxt] {P : Program} {call : CallFn} {yld : YldFn} {lim : Nat} {ops : Array Oper} : ∀ (l : List Oper) (qs : List Inf) (s : Nat) (as : List (Nat × Nat × Nat)) (T TF : Fr) (M MF : Mem) (sts stsF : List Sto),
    evalChain P call yld lim ops l qs as T M sts = some (TF, MF, stsF) → (∀ j q, qs[j]? = some q → q.1 = s + j) → ∃ (ds : List (Option Tmp × CV)) (ms : Nat → Mem) (s2 : List Sto), ds.length = l.length ∧ ms 0 = M ∧ ms l.length = MF ∧ TF = puts (fun _ => true) s ds T ∧
      stsF = sts ++ s2 ∧ (∀ x ∈ s2, s ≤ x.ix ∧ x.ix < s + l.length) ∧ s2.Pairwise (fun a b => a.ix < b.ix) ∧
      ∀ j o, l[j]? = some o → ∃ v q, ds[j]? = some (o.dst, v) ∧ qs[j]? = some q ∧ ChainAt P call yld lim ops s2 (s + j) q o v (puts (fun k => decide (k < s + j)) s ds T) (ms j) (ms (j + 1)) (hiddenAt qs as ms j q)
  | [], qs, s, as, T, TF, M, MF, sts, stsF, h, _ => by
    simp [evalChain] at h
    exact ⟨[], fun _ => M, [], rfl, rfl, h.2.1, h.1.symm, by simp [h.2.2], by simp, List.Pairwise.nil, fun j o hj => by simp at hj⟩
  | _ :: _, [], s, as, T, TF, M, MF, sts, stsF, h, _ => by simp [evalChain] at h
  | o :: r, q :: qs, s, as, T, TF, M, MF, sts, stsF, h, hix => by
    have hq0 : q.1 = s := by have := hix 0 q rfl; omega
    have common : ∀ (v : CV) (M1 : Mem) (as1 : List (Nat × Nat × Nat)) (s1 : List Sto), evalChain P call yld lim ops r qs as1 (putC T o.dst v) M1 (sts ++ s1) = some (TF, MF, stsF) → (∀ x ∈ as, x ∈ as1) → (q.2.1 = 2 → M1 ≠ M → (q.1, M.next, M1.next) ∈ as1) →
        (∀ x ∈ s1, x.ix = s) → s1.length ≤ 1 →
        (∀ (s2 : List Sto) (hidden : Nat → Prop), (∀ x ∈ s2, s + 1 ≤ x.ix) → (∀ k, hidden k → ∃ x ∈ as, (x.2.1 ≤ k ∧ k < x.2.2) ∧ bitOf q.2.2.1 x.1 = false) → ChainAt P call yld lim ops (s1 ++ s2) s q o v T M M1 hidden) →
        ∃ (ds : List (Option Tmp × CV)) (ms : Nat → Mem) (s2 : List Sto), ds.length = (o :: r).length ∧ ms 0 = M ∧ ms (o :: r).length = MF ∧ TF = puts (fun _ => true) s ds T ∧
          stsF = sts ++ s2 ∧ (∀ x ∈ s2, s ≤ x.ix ∧ x.ix < s + (o :: r).length) ∧ s2.Pairwise (fun a b => a.ix < b.ix) ∧
          ∀ j o', (o :: r)[j]? = some o' → ∃ v q', ds[j]? = some (o'.dst, v) ∧ (q :: qs)[j]? = some q' ∧ ChainAt P call yld lim ops s2 (s + j) q' o' v (puts (fun k => decide (k < s + j)) s ds T) (ms j) (ms (j + 1)) (hiddenAt (q :: qs) as ms j q') := by
      intro v M1 as1 s1 hev ha1 ha2 hs1 hs1l hsp
      obtain ⟨ds, ms, s2, e1, e2, e3, e4, e6, e7, e8, e5⟩ := evalChain_spec r qs (s + 1) as1 _ TF M1 MF _ stsF hev (fun j q' hq' => by have := hix (j + 1) q' (by simpa using hq'); omega)
      refine ⟨(o.dst, v) :: ds, fun n => Nat.rec M (fun n _ => ms n) n, s1 ++ s2, by simp [e1], rfl, by simpa using e3, ?_, by rw [e6, List.append_assoc], fun x hx => ?_, ?_, ?_⟩
      · rw [e4]; rfl
      · simp only [List.length_cons]
        rcases List.mem_append.1 hx with hx | hx
        · have := hs1 x hx; omega
        · have := e7 x hx; omega
      · rw [List.pairwise_append]
        refine ⟨?_, e8, fun a ha b hb => by have := hs1 a ha; have := e7 b hb; omega⟩
        cases s1 with
        | nil => exact List.Pairwise.nil
        | cons x l =>
          cases l with
          | nil => simp
          | cons y l => simp at hs1l
      · intro j o' hj
        cases j with
        | zero =>
          simp at hj; subst hj
          refine ⟨v, q, rfl, rfl, ?_⟩
          have hT : puts (fun k => decide (k < s + 0)) s ((o.dst, v) :: ds) T = T := puts_none _ _ _ _ (fun k h1 _ => by simp; omega)
          rw [hT]
          show ChainAt P call yld lim ops (s1 ++ s2) (s + 0) q o v T M (ms 0) _
          rw [e2]
          refine hsp s2 _ (fun x hx => by have := e7 x hx; omega) (fun k hk => ?_)
          rcases hk with hk | ⟨j', _, hj', _⟩
          · exact hk
          · omega
        | succ j =>
          obtain ⟨v', q', f1, fq, f2⟩ := e5 j o' (by simpa using hj)
          refine ⟨v', q', by simpa using f1, by simpa using fq, ?_⟩
          have hp : puts (fun k => decide (k < s + (j + 1))) s ((o.dst, v) :: ds) T = puts (fun k => decide (k < s + 1 + j)) (s + 1) ds (putC T o.dst v) := by
            show puts _ (s + 1) ds (cond (decide (s < s + (j + 1))) _ _) = _
            rw [show decide (s < s + (j + 1)) = true by simp, cond_true, show s + (j + 1) = s + 1 + j by omega]
          rw [hp, show s + (j + 1) = s + 1 + j by omega]
          show ChainAt P call yld lim ops (s1 ++ s2) (s + 1 + j) q' o' v' _ (ms j) (ms (j + 1)) _
          have hmono : ∀ k, hiddenAt (q :: qs) as (fun n => Nat.rec M (fun n _ => ms n) n) (j + 1) q' k → hiddenAt qs as1 ms j q' k := by
            intro k hk
            unfold hiddenAt at hk ⊢
            rcases hk with ⟨x, g1, g2⟩ | ⟨j', q'', g1, g2, g3, g4, g5, g6⟩
            · exact .inl ⟨x, ha1 x g1, g2⟩
            · cases j' with
              | zero =>
                simp at g2; subst g2
                have hk : M.next ≤ k ∧ k < (ms 0).next := g5
                rw [e2] at hk
                refine .inl ⟨(q.1, M.next, M1.next), ha2 g3 (fun h => g4 ?_), hk, g6⟩
                show ms 0 = M
                rw [e2, h]
              | succ j' =>
                exact .inr ⟨j', q'', by omega, by simpa using g2, g3, g4, g5, g6⟩
          have off : (∀ x ∈ s2, x.ix ≠ s + 1 + j) → ∀ x ∈ s1 ++ s2, x.ix ≠ s + 1 + j := fun h x hx => by
            rcases List.mem_append.1 hx with hx | hx
            · have := hs1 x hx; omega
            · exact h x hx
          rcases f2 with ⟨a1, a2⟩ | ⟨a1, a0, a2⟩ | ⟨a1, a2, a3, a4, x, hx, a5⟩
          · exact .inl ⟨off a1, a2⟩
          · refine .inr (.inl ⟨off a1, a0, ?_⟩)
            rcases a2 with ⟨a1, a2, a3, Mi, Mj, a4, a5, a6, a7⟩ | f | f
            · refine .inl ⟨a1, a2, a3, Mi, Mj, a4, a5, a6, ?_⟩
              rcases a7 with a7 | a7 | ⟨a7, a8⟩
              · exact .inl a7
              · exact .inr (.inl a7)
              · exact .inr (.inr ⟨a7, fun k c hk => ⟨(a8 k c hk).1, (a8 k c hk).2.1, fun hh => (a8 k c hk).2.2 (hmono k hh)⟩⟩)
            · exact .inr (.inl f)
            · exact .inr (.inr f)
          · exact .inr (.inr ⟨a1, a2, a3, a4, x, List.mem_append_right _ hx, a5⟩)
    have ge : ∀ {s2 : List Sto}, (∀ x ∈ s2, s + 1 ≤ x.ix) → ∀ x ∈ [] ++ s2, x.ix ≠ s := fun h x hx => by
      have := h x (by simpa using hx); omega
    simp only [evalChain, Bool.cond_eq_ite] at h
    split at h
    · rename_i hw
      split at h
      · rename_i h5
        have h5 := Nat.eq_of_beq_eq_true h5
        unfold stoThen at h
        split at h
        · rename_i z hz
          unfold finSto at hz
          split at hz
          · rename_i t x y hop
            split at hz
            · rename_i p hp
              simp at hz; subst hz
              refine common (.clo undef) M as [⟨q.1, t, p.1, p.2, (opd T y).cells⟩] h (fun _ h => h) (fun _ h => absurd rfl h) (by simp [hq0]) (by simp) (fun s2 hidden _ _ => ?_)
              exact .inr (.inr ⟨hw, h5, rfl, rfl, ⟨q.1, t, p.1, p.2, (opd T y).cells⟩, by simp, hq0, t, x, y, hop, rfl, asPtr_some hp, rfl⟩)
            · cases hz
          · cases hz
        · cases h
      · rename_i h5
        have h5 : q.2.1 ≠ 5 := fun e => h5 (by rw [e]; rfl)
        unfold putThen at h
        split at h
        · rename_i z hz
          refine common z.1 z.2 _ [] (by rw [List.append_nil]; exact h) (fun x hx => ?_) (fun hc _ => ?_) (by simp) (by simp) (fun s2 hidden h2 hh => .inr (.inl ⟨ge h2, h5, chainOp_spec hw hz hh⟩))
          · unfold putAs
            cases Nat.beq q.2.1 2
            · exact hx
            · exact List.mem_cons_of_mem _ hx
          · unfold putAs
            rw [hc]
            exact List.mem_cons_self ..
        · cases h
    · rename_i hw
      exact common (.clo undef) M as [] (by rw [List.append_nil]; exact h) (fun _ h => h) (fun _ h => absurd rfl h) (by simp) (by simp) (fun s2 _ h2 _ => .inl ⟨ge h2, by simpa using hw, rfl, rfl⟩)

def klOf (qs : List Inf) (i : Nat) : Nat := match qs[i]? with | some q => q.2.1 | none => 0
theorem klOf_get {qs : List Inf} {i : Nat} {q : Inf} (h : qs[i]? = some q) : klOf qs i = q.2.1 := by unfold klOf; rw [h]

theorem yieldOf_congr {T T' : Fr} (o : Oper) (h : SameOn T T' o.op.operands.toList) : yieldOf T o = yieldOf T' o := by
  unfold yieldOf
  split
  · rename_i c hc
    split
    · rename_i f hf
      have : opd T f = opd T' f := h f (by rw [hc]; simp [Op.operands, Call.operands, hf])
      rw [this]
    · rfl
  · rfl

theorem evalOpY_congr [Ctxt] (P : Program) (call : CallFn) (yld : YldFn) (lim : Nat) {T T' : Fr} (M : Mem) (o : Oper) (h : SameOn T T' o.op.operands.toList) : evalOpY P call yld lim T M o = evalOpY P call yld lim T' M o := by
  unfold evalOpY
  rw [← yieldOf_congr o h]
  split
  · rename_i q hq
    obtain ⟨c, f, hc, hf, _, hq2⟩ := yieldOf_some hq
    rw [map_opd_congr (l := q.2) fun x hx => h x (by rw [hc]; rw [hq2] at hx; simp [Op.operands, Call.operands]; exact .inr (by simpa using hx))]
  · exact evalOp_congr P call lim M o h

/-- All that is known of a chain that has been worked out. -/
structure CC [Ctxt] (P : Program) (call : CallFn) (yld : YldFn) (lim : Nat) (ops : Array Oper) (cls : List (List Nat)) (cl : List Inf) (T0 : Fr) (M0 MF : Mem) (ds : List (Option Tmp × CV)) (ms : Nat → Mem) (sts : List Sto) : Prop where
  hcls : ∀ i, i < ops.size → cls.getD i [] = (closures ops.toList).getD i []
  c1 : ∀ i o, ops[i]? = some o → ∀ j ∈ ons o, j < i
  c2 : ∀ i o j o', ops[i]? = some o → ops[j]? = some o' → i ≠ j → j ∉ cls.getD i [] → i ∉ cls.getD j [] → ∀ d, o'.dst = some d → d ∉ o.looksAt ops ∧ o.dst ≠ some d
  dlen : ds.length = ops.size
  m0 : ms 0 = M0
  mF : ms ops.size = MF
  spec : ∀ i o, ops[i]? = some o → ∃ v q, ds[i]? = some (o.dst, v) ∧ cl[i]? = some q ∧ ChainAt P call yld lim ops sts i q o v (puts (fun k => decide (k < i)) 0 ds T0) (ms i) (ms (i + 1)) (hiddenAt cl [] ms i q)
  qcls : ∀ i q, cl[i]? = some q → q.1 = i ∧ ∀ j, j < ops.size → bitOf q.2.2.1 j = true → j ∈ cls.getD i []
  ord : ∀ i j oi oj, ops[i]? = some oi → ops[j]? = some oj → i ≠ j → 1 ≤ klOf cl i → 1 ≤ klOf cl j → klOf cl i ≠ 5 → klOf cl j ≠ 5 → 4 ≤ klOf cl i + klOf cl j → i ∈ cls.getD j [] ∨ j ∈ cls.getD i []
  una : ∀ i j q oj, cl[i]? = some q → q.2.1 = 1 → q.2.2.2 = false → ops[j]? = some oj → klOf cl j = 2 → j ∈ cls.getD i [] ∨ i ∈ cls.getD j []
  mono : ∀ i, i < ops.size → (ms i).next ≤ (ms (i + 1)).next
  fin : ∀ i j oj, klOf cl i = 5 → ops[j]? = some oj → klOf cl j ≠ 0 → klOf cl j ≠ 5 → j ∈ cls.getD i []
  srt : sts.Pairwise (fun s t => s.ix < t.ix)
  six : ∀ s ∈ sts, s.ix < ops.size ∧ klOf cl s.ix = 5
  good : ∀ s ∈ sts, stOK P lim MF s = true
  apart : ∀ s ∈ sts, ∀ t ∈ sts, stoApart s t = true

section
variable {P : Program} {call : CallFn} {yld : YldFn} {lim : Nat} {ops : Array Oper} {cls : List (List Nat)} {cl : List Inf} {T0 : Fr} {M0 MF : Mem} {ds : List (Option Tmp × CV)} {ms : Nat → Mem} {sts : List Sto}

theorem CC.still [Ctxt] (C : CC P call yld lim ops cls cl T0 M0 MF ds ms sts) {a b : Nat} (hab : a ≤ b) (hb : b ≤ ops.size) (h : ∀ j o, a ≤ j → j < b → ops[j]? = some o → klOf cl j ≤ 1 ∨ klOf cl j = 5) : ms b = ms a := by
  induction b with
  | zero => have : a = 0 := by omega
            subst this; rfl
  | succ b ih =>
    by_cases hb' : a = b + 1
    · subst hb'; rfl
    · have h1 := ih (by omega) (by omega) (fun j o h1 h2 => h j o h1 (by omega))
      rw [← h1]
      have hin : b < ops.size := by omega
      have hc := h b ops[b] (by omega) (by omega) (by simp [hin])
      obtain ⟨v, q, _, hq, hs⟩ := C.spec b ops[b] (by simp [hin])
      rw [klOf_get hq] at hc
      rcases hs with ⟨_, _, _, h⟩ | ⟨_, h5, ⟨_, _, h, _⟩ | ⟨_, h, _⟩ | ⟨_, h, _⟩⟩ | ⟨_, _, _, h, _⟩
      · exact h
      · exact h
      · omega
      · omega
      · exact h

theorem CC.next_le [Ctxt] (C : CC P call yld lim ops cls cl T0 M0 MF ds ms sts) {a b : Nat} (hab : a ≤ b) (hb : b ≤ ops.size) : (ms a).next ≤ (ms b).next := by
  induction b with
  | zero => have : a = 0 := by omega
            subst this; exact Nat.le_refl _
  | succ b ih =>
    by_cases hb' : a = b + 1
    · subst hb'; exact Nat.le_refl _
    · exact Nat.le_trans (ih (by omega) (by omega)) (C.mono b (by omega))

/-- Where the region stands when the operations of `L` have been carried out. -/
def InvC [Ctxt] (lim : Nat) (ops : Array Oper) (cl : List Inf) (T0 : Fr) (M0 : Mem) (ds : List (Option Tmp × CV)) (ms : Nat → Mem) (sts : List Sto) (e0 : Env) (w0 : World) (L : Nat → Bool) (a : Act) (w : World) : Prop :=
  ∃ e n, DT e (puts L 0 ds T0) a ∧ DF e T0 a ∧ n ≤ ops.size ∧ (∀ j o, ops[j]? = some o → 2 ≤ klOf cl j → klOf cl j ≠ 5 → (L j = true ↔ j < n)) ∧ Post lim e0 M0 w0 e (stSub L sts (ms n)) w

set_option maxHeartbeats 1000000 in
theorem CC.step [Ctxt] (C : CC P call yld lim ops cls cl T0 M0 MF ds ms sts) (hcall : CallOK P call) (hyl : YldOK P yld) (hpl : Ctxt.pin ≤ lim) (hlim : lim ≤ M0.next) {e0 : Env} {w0 : World} (hnone : ∀ k, M0.next ≤ k → k < MF.next → e0 k = none)
    {L : Nat → Bool} {a : Act} {w : World} {i : Nat} {o : Oper} (ho : ops[i]? = some o) (hLi : L i = false)
    (hdown : ∀ j o', ops[j]? = some o' → L j = true → ∀ j' ∈ ons o', L j' = true) (hready : ∀ j ∈ ons o, L j = true) (hI : InvC lim ops cl T0 M0 ds ms sts e0 w0 L a w)
    {Q : Exit → Act → World → Prop} {K : Act → World → Prop} (hK : ∀ a' w', InvC lim ops cl T0 M0 ds ms sts e0 w0 (updL L i) a' w' → K a' w') (ro : Option Nat) (nn : Nat) : wpOpIn (FW ro) nn P ops Q i K a w := by
  obtain ⟨e, n, hT, hd, hnle, hn, hp⟩ := hI
  obtain ⟨v, q, hdi, hqi, hcase⟩ := C.spec i o ho
  have hkl := klOf_get hqi
  unfold ChainAt ChainSpec at hcase
  rw [← hkl] at hcase
  have hin : i < ops.size := (Array.getElem?_eq_some_iff.1 ho).1
  have clsL : ∀ j ∈ cls.getD i [], L j = true := cls_listed C.hcls C.c1 (L := fun j => L j = true) hdown i o ho hready
  have clsOf : ∀ k ok, ops[k]? = some ok → L k = true → ∀ j ∈ cls.getD k [], L j = true := fun k ok hk hLk => cls_listed C.hcls C.c1 (L := fun j => L j = true) hdown k ok hk (hdown k ok hk hLk)
  have notIn : ∀ k ok, ops[k]? = some ok → L k = true → i ∉ cls.getD k [] := fun k ok hk hLk hm => by
    have := clsOf k ok hk hLk i hm; rw [hLi] at this; cases this
  have lt : ∀ k ok, ops[k]? = some ok → ∀ j ∈ cls.getD k [], j < k := cls_lt C.hcls C.c1
  have ofD : ∀ k x, ds[k]? = some x → ∃ (ok : Oper) (vk : CV), ops[k]? = some ok ∧ x = (ok.dst, vk) := fun k x hx => by
    have hk : k < ops.size := by rw [← C.dlen]; exact (List.getElem?_eq_some_iff.1 hx).1
    obtain ⟨vk, _, h1, _⟩ := C.spec k ops[k] (Array.getElem?_eq_getElem hk)
    rw [hx] at h1; cases h1
    exact ⟨ops[k], vk, Array.getElem?_eq_getElem hk, rfl⟩
  -- the frame as the operation sees it
  have hframe : ∀ t ∈ o.looksAt ops, (puts L 0 ds T0).get t = (puts (fun k => decide (k < i)) 0 ds T0).get t := by
    intro t ht
    refine puts_get _ 0 T0 T0 rfl rfl (fun k x hx hne hxt => ?_)
    obtain ⟨ok, vk, g1, rfl⟩ := ofD k x hx
    simp only [Nat.zero_add] at hne
    have hki : k ≠ i := fun h => by subst h; rw [hLi] at hne; simp at hne
    have hno : k ∉ cls.getD i [] ∧ i ∉ cls.getD k [] := by
      cases hLk : L k with
      | true =>
        rw [hLk] at hne
        have : ¬ k < i := by simpa using hne
        exact ⟨fun h => by have := lt i o ho k h; omega, notIn k ok g1 hLk⟩
      | false =>
        rw [hLk] at hne
        have : k < i := by simpa using hne
        exact ⟨(fun h => by have := clsL k h; rw [hLk] at this; cases this), fun h => by have := lt k ok g1 i h; omega⟩
    exact (C.c2 i o k ok ho g1 (Ne.symm hki) hno.1 hno.2 t hxt).1 ht
  have hfn : (puts L 0 ds T0).n = (puts (fun k => decide (k < i)) 0 ds T0).n := by rw [puts_n, puts_n]
  have hwant : Region.wanted o (yielded ops a.tmps) = Region.wanted o (yieldC ops (puts (fun k => decide (k < i)) 0 ds T0)) := by
    rw [← yieldC_congr ops o hfn hframe]
    congr 1
    funext j
    exact (yieldC_eq hT ops j).symm
  -- the frame behind it
  have hput : ∀ {e' : Env} {u : Value}, Env.le e e' → den e' v = some u → DT e' (puts (updL L i) 0 ds T0) (a.put o.dst u) := by
    intro e' u hle hu
    refine ((hT.mono hle).putC hu o.dst).congr (by rw [puts_n, putC_n, puts_n]) (fun t => ?_)
    rw [putC_get, puts_n]
    split
    · rename_i h
      refine puts_last (m := i) _ 0 T0 (by rw [hdi, h.1]) (by simp [updL]) h.2 (fun k x hk hx hf hxt => ?_)
      obtain ⟨ok, vk, g1, rfl⟩ := ofD k x hx
      simp only [Nat.zero_add, updL] at hf
      rw [if_neg (by omega)] at hf
      exact (C.c2 i o k ok ho g1 (by omega) (fun h => by have := lt i o ho k h; omega) (notIn k ok g1 hf) t hxt).2 h.1
    · rename_i h
      by_cases ht : t < T0.n
      · refine puts_get _ 0 T0 T0 rfl rfl (fun k x hx hne hxt => ?_)
        simp only [Nat.zero_add, updL] at hne
        split at hne
        · rename_i hk
          subst hk
          rw [hdi] at hx; cases hx
          exact h ⟨hxt, ht⟩
        · exact hne rfl
      · rw [puts_out _ _ _ (by omega), puts_out _ _ _ (by omega)]
  -- where no final store has come
  have noSto : klOf cl i ≠ 0 → klOf cl i ≠ 5 → ∀ s ∈ sts, L s.ix = false := fun h0 h5 s hs => by
    obtain ⟨g1, g2⟩ := C.six s hs
    cases hLs : L s.ix with
    | false => rfl
    | true => exact absurd (C.fin s.ix i o g2 ho h0 h5) (notIn s.ix ops[s.ix] (by simp [g1]) hLs)
  have offSto : ∀ {M : Mem}, (∀ s ∈ sts, L s.ix = false) → ∀ k, (stSub L sts M).at k = M.at k := fun {M} h k => by
    rw [stSub_at]
    exact subB_same sts _ (fun s hs hL => by rw [h s hs] at hL; cases hL)
  have updSto : (∀ s ∈ sts, s.ix ≠ i) → ∀ s ∈ sts, updL L i s.ix = L s.ix := fun h s hs => by
    simp only [updL]; rw [if_neg (h s hs)]
  have keepSto : (∀ s ∈ sts, s.ix ≠ i) → ∀ {M : Mem} k, (stSub (updL L i) sts M).at k = (stSub L sts M).at k := fun h {M} k => by
    rw [stSub_at, stSub_at]
    exact subB_congr sts _ (updSto h)
  -- an operation of the chain
  have inChain : 2 ≤ klOf cl i → klOf cl i ≠ 5 → ms i = ms n ∧ ∀ j oj, ops[j]? = some oj → 2 ≤ klOf cl j → klOf cl j ≠ 5 → (updL L i j = true ↔ j < i + 1) := by
    intro hc hc5
    have hord : ∀ j oj, ops[j]? = some oj → 2 ≤ klOf cl j → klOf cl j ≠ 5 → j ≠ i → (L j = true ↔ j < i) := fun j oj hj hcj hcj5 hne => by
      rcases C.ord i j o oj ho hj (Ne.symm hne) (by omega) (by omega) hc5 hcj5 (by omega) with h | h
      · have := lt j oj hj i h
        exact ⟨fun hL => absurd h (notIn j oj hj hL), fun _ => by omega⟩
      · have := lt i o ho j h
        exact ⟨fun _ => this, fun _ => clsL j h⟩
    have hni : n ≤ i := by
      rcases Nat.lt_or_ge i n with h | h
      · have := (hn i o ho hc hc5).2 h; rw [hLi] at this; cases this
      · exact h
    refine ⟨C.still hni (by omega) (fun j oj h1 h2 hj => ?_), fun j oj hj hcj hcj5 => ?_⟩
    · rcases Nat.lt_or_ge 1 (klOf cl j) with h | h
      · by_cases h5 : klOf cl j = 5
        · exact .inr h5
        · have g1 := (hord j oj hj h h5 (by omega)).2 h2
          have := (hn j oj hj h h5).1 g1; omega
      · exact .inl h
    · by_cases hji : j = i
      · subst hji; simp [updL]
      · have := hord j oj hj hcj hcj5 hji
        simp only [updL]; rw [if_neg hji, this]; omega
  have offChain : klOf cl i ≤ 1 ∨ klOf cl i = 5 → ∀ j oj, ops[j]? = some oj → 2 ≤ klOf cl j → klOf cl j ≠ 5 → (updL L i j = true ↔ j < n) := fun hc j oj hj hcj hcj5 => by
    have hji : j ≠ i := fun h => by subst h; rw [ho] at hj; cases hj; omega
    simp only [updL]; rw [if_neg hji]; exact hn j oj hj hcj hcj5
  unfold wpOpIn
  simp only [ho]
  rcases hcase with ⟨hst, hw, hv, hm⟩ | ⟨hst, hc5, ⟨hw, hc, hm, Mi, M1, hev, hMi, hM1, hsub⟩ | ⟨hw, hc, M1, hev, hx1, hm⟩ | ⟨hw, hc, hev⟩⟩ | ⟨hw, hc, hv, hm, s, hs, hsi, t, x, y, hop, hty, hx, hcs⟩
  · -- not wanted
    rw [hwant, hw]
    simp only [Bool.false_eq_true, if_false]
    refine ⟨fun _ _ => trivial, hK _ _ ?_⟩
    rcases Nat.lt_or_ge 1 (klOf cl i) with hc | hc
    · by_cases h5 : klOf cl i = 5
      · exact ⟨e, n, hput (.refl e) (by rw [hv]; rfl), hd.put (.refl e) _ _, hnle, offChain (.inr h5), hp.congr (by rw [stSub_next, stSub_next]) (keepSto hst)⟩
      · obtain ⟨g1, g2⟩ := inChain hc h5
        exact ⟨e, i + 1, hput (.refl e) (by rw [hv]; rfl), hd.put (.refl e) _ _, hin, g2, by rw [hm, g1]; exact hp.congr (by rw [stSub_next, stSub_next]) (keepSto hst)⟩
    · exact ⟨e, n, hput (.refl e) (by rw [hv]; rfl), hd.put (.refl e) _ _, hnle, offChain (.inl hc), hp.congr (by rw [stSub_next, stSub_next]) (keepSto hst)⟩
  · -- an operation that looks
    rw [hwant, hw]
    simp only [if_true]
    have hevop : evalOp P call (ms i).next (puts L 0 ds T0) Mi o = some (v, M1) := by
      rw [evalOp_congr P call (ms i).next Mi o (sameOn_of_looks ops o hframe)]; exact hev
    have far3 : klOf cl i = 1 → ∀ j oj, ops[j]? = some oj → 3 ≤ klOf cl j → klOf cl j ≠ 5 → ¬ (n ≤ j ∧ j < i) ∧ ¬ (i ≤ j ∧ j < n) := fun h1 j oj hj h3 hj5 => by
      have hji : j ≠ i := fun h => by subst h; rw [ho] at hj; cases hj; omega
      have hL := hn j oj hj (by omega) hj5
      rcases C.ord i j o oj ho hj (Ne.symm hji) (by omega) (by omega) hc5 hj5 (by omega) with h | h
      · have h4 := lt j oj hj i h
        refine ⟨fun h5 => by omega, fun h5 => ?_⟩
        exact absurd h (notIn j oj hj (hL.2 h5.2))
      · have h4 := lt i o ho j h
        exact ⟨fun h5 => by have := hL.1 (clsL j h); omega, fun h5 => by omega⟩
    have hsubM : ∀ k c, Mi.at k = some c → (ms n).at k = some c := by
      intro k c hk
      rcases hsub with h | ⟨h1, h2, h3⟩ | ⟨h1, h2⟩
      · unfold Mem.at at hk; rw [h] at hk; cases hk
      · have far2 : ∀ j oj, ops[j]? = some oj → 2 ≤ klOf cl j → klOf cl j ≠ 5 → ¬ (n ≤ j ∧ j < i) ∧ ¬ (i ≤ j ∧ j < n) := fun j oj hj hcj hcj5 => by
          rcases Nat.lt_or_ge 2 (klOf cl j) with h | h
          · exact far3 h1 j oj hj (by omega) hcj5
          · have hji : j ≠ i := fun h => by subst h; rw [ho] at hj; cases hj; omega
            have hL := hn j oj hj hcj hcj5
            rcases C.una i j q oj hqi (by omega) h2 hj (by omega) with h | h
            · have h4 := lt i o ho j h
              exact ⟨fun h5 => by have := hL.1 (clsL j h); omega, fun h5 => by omega⟩
            · have h4 := lt j oj hj i h
              refine ⟨fun h5 => by omega, fun h5 => ?_⟩
              exact absurd h (notIn j oj hj (hL.2 h5.2))
        have heq : ms n = ms i := by
          rcases Nat.lt_or_ge n i with h | h
          · exact (C.still (by omega) (by omega) (fun j oj g1 g2 hj => by
              rcases Nat.lt_or_ge 1 (klOf cl j) with h5 | h5
              · by_cases hj5 : klOf cl j = 5
                · exact .inr hj5
                · exact absurd ⟨g1, g2⟩ (far2 j oj hj h5 hj5).1
              · exact .inl h5)).symm
          · exact C.still h hnle (fun j oj g1 g2 hj => by
              rcases Nat.lt_or_ge 1 (klOf cl j) with h5 | h5
              · by_cases hj5 : klOf cl j = 5
                · exact .inr hj5
                · exact absurd ⟨g1, g2⟩ (far2 j oj hj h5 hj5).2
              · exact .inl h5)
        rw [heq, ← h3]; exact hk
      · obtain ⟨g1, g2, g3⟩ := h2 k c hk
        rcases Nat.lt_or_ge i n with hlt | hge
        · -- makers behind it have come first
          have up : ∀ d, i + d ≤ n → (ms (i + d)).at k = some c ∧ k < (ms (i + d)).next := by
            intro d
            induction d with
            | zero => exact fun _ => ⟨g1, g2⟩
            | succ d ih =>
              intro hdn
              obtain ⟨f1, f2⟩ := ih (by omega)
              have hjn : i + d < ops.size := by omega
              have hmono := C.mono (i + d) hjn
              obtain ⟨vj, qj, _, hqj, hs⟩ := C.spec (i + d) ops[i + d] (by simp [hjn])
              have hklj := klOf_get hqj
              show (ms (i + d + 1)).at k = some c ∧ k < (ms (i + d + 1)).next
              refine ⟨?_, by omega⟩
              rcases hs with ⟨_, _, _, h⟩ | ⟨_, hj5, ⟨_, _, h, _⟩ | ⟨_, h, M2, _, _, hj⟩ | ⟨_, h, _⟩⟩ | ⟨_, _, _, h, _⟩
              · rw [h]; exact f1
              · rw [h]; exact f1
              · rw [hj, at_joinR, if_neg (by omega), if_pos f2]; exact f1
              · exact absurd ⟨by omega, by omega⟩ (far3 h1 (i + d) ops[i + d] (by simp [hjn]) (by omega) (by omega)).2
              · rw [h]; exact f1
          have := (up (n - i) (by omega)).1
          rwa [show i + (n - i) = n by omega] at this
        · -- makers before it have not come yet
          have dn : ∀ d, n + d ≤ i → (ms (i - d)).at k = some c := by
            intro d
            induction d with
            | zero => exact fun _ => g1
            | succ d ih =>
              intro hdn
              have f1 := ih (by omega)
              obtain ⟨j, hj⟩ : ∃ j, i - d = j + 1 := ⟨i - d - 1, by omega⟩
              have hjd : i - (d + 1) = j := by omega
              have hjn : j < ops.size := by omega
              rw [hj] at f1
              rw [hjd]
              obtain ⟨vj, qj, _, hqj, hs⟩ := C.spec j ops[j] (by simp [hjn])
              have hklj := klOf_get hqj
              rcases hs with ⟨_, _, _, h⟩ | ⟨_, hj5, ⟨_, _, h, _⟩ | ⟨_, h, M2, _, hx1, hjm⟩ | ⟨_, h, _⟩⟩ | ⟨_, _, _, h, _⟩
              · rw [h] at f1; exact f1
              · rw [h] at f1; exact f1
              · by_cases hsame : ms (j + 1) = ms j
                · rw [hsame] at f1; exact f1
                · rw [hjm, at_joinR] at f1
                  split at f1
                  · rename_i hiv
                    refine absurd (.inr ⟨j, qj, by omega, hqj, h, hsame, ⟨hiv.1, by rw [hjm]; exact hiv.2⟩, ?_⟩) g3
                    cases hm : bitOf q.2.2.1 qj.1 with
                    | false => rfl
                    | true =>
                      have hqix := (C.qcls j qj hqj).1
                      rw [hqix] at hm
                      have hL := (hn j ops[j] (by simp [hjn]) (by omega) (by omega)).1 (clsL j ((C.qcls i q hqi).2 j hjn hm))
                      omega
                  · split at f1
                    · exact f1
                    · cases f1
              · exact absurd ⟨by omega, by omega⟩ (far3 h1 j ops[j] (by simp [hjn]) (by omega) (by omega)).1
              · rw [h] at f1; exact f1
          have := dn (i - n) (by omega)
          rwa [show i - (i - n) = n by omega] at this
    have hsubN : ∀ k c, Mi.at k = some c → (stSub L sts (ms n)).at k = some c := by
      intro k c hk
      rcases hsub with h | ⟨h1, _⟩ | ⟨h1, _⟩
      · unfold Mem.at at hk; rw [h] at hk; cases hk
      · rw [offSto (noSto (by omega) hc5)]; exact hsubM k c hk
      · rw [offSto (noSto (by omega) hc5)]; exact hsubM k c hk
    have hRi : Rep e Mi w := by
      refine hp.rep.sub (fun k c hk => ⟨hsubN k c hk, ?_⟩) ?_
      · rcases hsub with h | ⟨h1, h2, h3⟩ | ⟨h1, h2⟩
        · unfold Mem.at at hk; rw [h] at hk; cases hk
        · have := hp.rep.wf k c (hsubN k c hk)
          rw [stSub_next] at this
          have far2 : ms n = ms i ∨ True := .inr trivial
          rcases Nat.lt_or_ge n i with hl | hl
          · have := C.next_le (Nat.le_of_lt hl) (by omega); omega
          · -- nothing of the chain lies between them
            have heq : (ms n).next = (ms i).next := by
              congr 1
              refine C.still hl hnle (fun j oj g1 g2 hj => ?_)
              rcases Nat.lt_or_ge 1 (klOf cl j) with h5 | h5
              · rcases Nat.lt_or_ge 2 (klOf cl j) with h | h
                · by_cases hj5 : klOf cl j = 5
                  · exact .inr hj5
                  · exact absurd ⟨g1, g2⟩ (far3 h1 j oj hj (by omega) hj5).2
                · have hji : j ≠ i := fun h => by subst h; rw [ho] at hj; cases hj; omega
                  rcases C.una i j q oj hqi (by omega) h2 hj (by omega) with h | h
                  · have h4 := lt i o ho j h; omega
                  · exact absurd h (notIn j oj hj ((hn j oj hj h5 (by omega)).2 g2))
              · exact .inl h5
            omega
        · have := (h2 k c hk).2.1; omega
      · have h1 := hp.rep.pinN
        have h2 := C.next_le (Nat.zero_le i) (by omega)
        rw [C.m0] at h2
        omega
    have hok := evalOp_ok hcall hevop hT hRi ⟨by
      have h2 := C.next_le (Nat.zero_le i) (by omega)
      rw [C.m0] at h2; omega, by omega⟩ (fun k h1 h2 => by omega)
    refine (hok ro nn K Q fun e' w' u hu hpost => hK _ _ ?_)
    obtain ⟨he, hp'⟩ := post_read hp hsubN hRi (by rw [hMi]; exact hpost) (by omega)
    subst he
    exact ⟨e', n, hput (.refl _) hu, hd.put (.refl _) _ _, hnle, offChain (.inl hc), hp'.congr (by rw [stSub_next, stSub_next]) (keepSto hst)⟩
  · -- an operation that makes a block
    rw [hwant, hw]
    simp only [if_true]
    obtain ⟨g1, g2⟩ := inChain (by omega) hc5
    have hno := noSto (by omega) hc5
    have hno' : ∀ s ∈ sts, updL L i s.ix = false := fun s hs => by rw [updSto hst s hs]; exact hno s hs
    have offSto' : ∀ {M : Mem} k, (stSub (updL L i) sts M).at k = M.at k := fun {M} k => by
      rw [stSub_at]
      exact subB_same sts _ (fun s hs hL => by rw [hno' s hs] at hL; cases hL)
    have hmn : (ms (i + 1)).next = M1.next := by rw [hm]; rfl
    have hF := C.next_le (show i + 1 ≤ ops.size from hin) (Nat.le_refl _)
    rw [C.mF] at hF
    have h0 := C.next_le (Nat.zero_le i) (by omega)
    rw [C.m0] at h0
    have hevop : evalOp P call (ms i).next (puts L 0 ds T0) (ms i) o = some (v, M1) := by
      rw [evalOp_congr P call (ms i).next (ms i) o (sameOn_of_looks ops o hframe)]; exact hev
    have hp1 : Post lim e0 M0 w0 e (ms i) w := by rw [g1]; exact hp.congr (by rw [stSub_next]) (fun k => (offSto hno k).symm)
    have hok := evalOp_ok hcall hevop hT hp1.rep ⟨by omega, Nat.le_refl _⟩ (fun k h1 h2 => by
      rw [hp1.env k (.inr h1)]; exact hnone k (by omega) (by omega))
    refine (hok ro nn K Q fun e' w' u hu hpost => hK _ _ ?_)
    refine ⟨e', i + 1, hput hpost.le hu, hd.put hpost.le _ _, hin, g2, (hp1.trans ?_).congr (by rw [stSub_next]) offSto'⟩
    refine (hpost.weaken (show lim ≤ (ms i).next by omega)).congr hmn (fun k => ?_)
    rw [hm, at_joinR]
    split
    · rfl
    · rename_i hk
      split
      · rename_i hk'
        exact (hpost.low k hk').symm
      · rename_i hk'
        cases hmk : M1.at k with
        | none => rfl
        | some c => have := hpost.rep.wf k c hmk; omega
  · -- any other operation
    rw [hwant, hw]
    simp only [if_true]
    obtain ⟨g1, g2⟩ := inChain (by omega) hc5
    have hno := noSto (by omega) hc5
    have hno' : ∀ s ∈ sts, updL L i s.ix = false := fun s hs => by rw [updSto hst s hs]; exact hno s hs
    have offSto' : ∀ {M : Mem} k, (stSub (updL L i) sts M).at k = M.at k := fun {M} k => by
      rw [stSub_at]
      exact subB_same sts _ (fun s hs hL => by rw [hno' s hs] at hL; cases hL)
    have hF := C.next_le (show i + 1 ≤ ops.size from hin) (Nat.le_refl _)
    rw [C.mF] at hF
    have h0 := C.next_le (Nat.zero_le i) (by omega)
    rw [C.m0] at h0
    have hevop : evalOpY P call yld lim (puts L 0 ds T0) (ms i) o = some (v, ms (i + 1)) := by
      rw [evalOpY_congr P call yld lim (ms i) o (sameOn_of_looks ops o hframe)]; exact hev
    have hp1 : Post lim e0 M0 w0 e (ms i) w := by rw [g1]; exact hp.congr (by rw [stSub_next]) (fun k => (offSto hno k).symm)
    have hok := evalOpY_ok hcall hyl hevop hT hp1.rep ⟨hpl, by omega⟩ (fun k h1 h2 => by
      rw [hp1.env k (.inr h1)]; exact hnone k (by omega) (by omega))
    exact (hok ro nn K Q fun e' w' u hu hpost => hK _ _ ⟨e', i + 1, hput hpost.le hu, hd.put hpost.le _ _, hin, g2, (hp1.trans hpost).congr (by rw [stSub_next]) offSto'⟩)
  · -- a final store
    rw [hwant, hw]
    simp only [if_true]
    subst hsi
    have hall : ∀ j oj, ops[j]? = some oj → klOf cl j ≠ 0 → klOf cl j ≠ 5 → L j = true := fun j oj hj h0 h5 => clsL j (C.fin s.ix j oj hc hj h0 h5)
    have hMn : ms n = MF := by
      rw [← C.mF]
      exact (C.still hnle (Nat.le_refl _) (fun j oj g1 g2 hj => by
        rcases Nat.lt_or_ge 1 (klOf cl j) with h | h
        · by_cases h5 : klOf cl j = 5
          · exact .inr h5
          · have := (hn j oj hj h h5).1 (hall j oj hj (by omega) h5); omega
        · exact .inl h)).symm
    rw [hMn] at hp
    have fits : ∀ t ∈ sts, ∀ b, MF.at t.nm = some b → lim ≤ t.nm ∧ t.off + t.cs.length ≤ b.cs.length ∧ t.cs.all oneCellC = true ∧ rowOK b.row = true ∧ ∃ inf, P.info? t.ty = some inf ∧ t.cs.length = inf.size := fun t ht b hb => by
      have := C.good t ht
      unfold stOK at this
      split at this
      · rename_i b' inf hb' hi
        rw [hb] at hb'; cases hb'
        simp only [Bool.and_eq_true] at this
        exact ⟨Nat.le_of_ble_eq_true this.1.1.1.1, Nat.le_of_ble_eq_true this.1.1.2, this.1.2, this.2, inf, hi, Nat.eq_of_beq_eq_true this.1.1.1.2⟩
      · cases this
    obtain ⟨b, hb⟩ : ∃ b, MF.at s.nm = some b := by
      have := C.good s hs
      unfold stOK at this
      split at this
      · rename_i b' inf hb' hi
        exact ⟨b', hb'⟩
      · cases this
    obtain ⟨f1, f2, f3, f6, inf, f4, f5⟩ := fits s hs b hb
    have hfit : ∀ t ∈ sts, s.nm = t.nm → t.off + t.cs.length ≤ b.cs.length := fun t ht hnm => (fits t ht b (by rw [← hnm]; exact hb)).2.1
    obtain ⟨b', hb', hl', hr'⟩ := subB_some (f := L) sts b hfit
    have hat : (stSub L sts MF).at s.nm = some b' := by rw [stSub_at, hb, hb']
    have hse : evalStore P lim (stSub L sts MF) t s.nm s.off (opd (puts L 0 ds T0) y) = some (stTo s (stSub L sts MF)) := by
      have hy : opd (puts L 0 ds T0) y = opd (puts (fun k => decide (k < s.ix)) 0 ds T0) y := sameOn_of_looks ops o hframe y (by rw [hop]; simp [Op.operands])
      unfold evalStore stTo
      rw [hat, hy, ← hcs, ← hty, f4]
      simp only
      rw [show (Nat.ble lim s.nm && Nat.beq s.cs.length inf.size && Nat.ble (s.off + s.cs.length) b'.cs.length && s.cs.all oneCellC && rowOK b'.row) = true by
        simp only [Bool.and_eq_true]
        exact ⟨⟨⟨⟨Nat.ble_eq_true_of_le f1, by rw [f5]; simp⟩, Nat.ble_eq_true_of_le (by omega)⟩, f3⟩, by rw [hr']; exact f6⟩]
      rfl
    have hevop : evalOp P call lim (puts L 0 ds T0) (stSub L sts MF) o = some (.clo undef, stTo s (stSub L sts MF)) := by
      have hx' : opd (puts L 0 ds T0) x = .ptr s.nm s.off := by
        rw [← hx]
        exact sameOn_of_looks ops o hframe x (by rw [hop]; simp [Op.operands])
      unfold evalOp
      rw [hop]
      simp only [evalMem, evStore, hx', asPtr, hse, Option.map_some]
    have hF := C.next_le (Nat.zero_le ops.size) (Nat.le_refl _)
    rw [C.m0, C.mF] at hF
    have hok := evalOp_ok hcall hevop hT hp.rep (by rw [stSub_next]; omega) (fun k h1 h2 => by rw [stTo_next] at h2; omega)
    refine (hok ro nn K Q fun e' w' u hu hpost => hK _ _ ⟨e', n, hput hpost.le (by rw [hv]; exact hu), hd.put hpost.le _ _, hnle, offChain (.inr hc), ?_⟩)
    rw [hMn]
    refine (hp.trans hpost).congr (by rw [stSub_next, stTo_next, stSub_next]) (fun k => ?_)
    rw [stTo_at, stSub_at, stSub_at]
    cases hk : MF.at k with
    | none => rw [subB_nil, subB_nil]; simp
    | some bk =>
      rw [subB_add hLi sts bk hs C.srt (fun t ht hnm => (fits t ht bk (by rw [← hnm]; exact hk)).2.1) (fun t ht hlt hLt hnm => by
        have := C.apart s hs t ht
        simp only [stoApart, Bool.or_eq_true] at this
        rcases this with ((h | h) | h) | h
        · have := Nat.eq_of_beq_eq_true h; omega
        · rw [hnm] at h; simp at h
        · exact .inl (Nat.le_of_ble_eq_true h)
        · exact .inr (Nat.le_of_ble_eq_true h))]

end

end Go.Ev
