/- A closed call is worked out by a program of its own: a region that draws its order, in whatever order. -/
import Derived.Test.YtllnglofbhmcgaaGreatEvI
namespace Go.Ev

/-! ### Stores, name by name -/
noncomputable def splB (s : Sto) (b : Blk) : Blk := ⟨spliceC b.cs s.off s.cs, b.ty, b.row⟩

theorem stTo_at [Ctxt] (s : Sto) (M : Mem) (k : Nat) : (stTo s M).at k = if k = s.nm then (M.at k).map (splB s) else M.at k := by
  cases h : M.at s.nm with
  | none =>
    have h0 : stTo s M = M := by unfold stTo; rw [h]
    rw [h0]
    by_cases hk : k = s.nm
    · rw [if_pos hk, hk, h]; rfl
    · rw [if_neg hk]
  | some b =>
    have h0 : stTo s M = M.set s.nm (splB s b) := by unfold stTo; rw [h]; rfl
    rw [h0, Mem.at_set, h]
    by_cases hk : k = s.nm
    · rw [if_pos hk, if_pos ⟨hk, rfl⟩, hk, h]; rfl
    · rw [if_neg hk, if_neg (fun hh => hk hh.1)]

theorem stTo_next (s : Sto) (M : Mem) : (stTo s M).next = M.next := by
  unfold stTo
  split <;> rfl

noncomputable def stSub (f : Nat → Bool) : List Sto → Mem → Mem
  | [], M => M
  | s :: r, M => stSub f r (cond (f s.ix) (stTo s M) M)

noncomputable def subB (f : Nat → Bool) (k : Nat) : List Sto → Option Blk → Option Blk
  | [], x => x
  | s :: r, x => subB f k r (if f s.ix = true ∧ k = s.nm then x.map (splB s) else x)

theorem stSub_at [Ctxt] (f : Nat → Bool) (k : Nat) : ∀ (l : List Sto) (M : Mem), (stSub f l M).at k = subB f k l (M.at k)
  | [], M => rfl
  | s :: r, M => by
    rw [stSub, subB, stSub_at f k r]
    cases h : f s.ix with
    | false => simp
    | true => simp only [cond_true, stTo_at, true_and]

theorem stSub_next [Ctxt] (f : Nat → Bool) : ∀ (l : List Sto) (M : Mem), (stSub f l M).next = M.next
  | [], M => rfl
  | s :: r, M => by
    rw [stSub, stSub_next f r]
    cases f s.ix with
    | false => rfl
    | true => exact stTo_next s M

theorem stAll_eq : ∀ (l : List Sto) (M : Mem), stAll l M = stSub (fun _ => true) l M
  | [], M => rfl
  | s :: r, M => by rw [stAll, stSub, stAll_eq r]; rfl

theorem subB_nil (f : Nat → Bool) (k : Nat) : ∀ (l : List Sto), subB f k l none = none
  | [] => rfl
  | s :: r => by
    rw [subB]
    split
    · exact subB_nil f k r
    · exact subB_nil f k r

theorem subB_same {f : Nat → Bool} {k : Nat} : ∀ (l : List Sto) (x : Option Blk), (∀ s ∈ l, f s.ix = true → k ≠ s.nm) → subB f k l x = x
  | [], _, _ => rfl
  | s :: r, x, h => by
    rw [subB, if_neg (fun ⟨h1, h2⟩ => h s (by simp) h1 h2)]
    exact subB_same r x (fun t ht => h t (by simp [ht]))

theorem subB_congr {f g : Nat → Bool} {k : Nat} : ∀ (l : List Sto) (x : Option Blk), (∀ s ∈ l, f s.ix = g s.ix) → subB f k l x = subB g k l x
  | [], _, _ => rfl
  | s :: r, x, h => by
    rw [subB, subB, h s (by simp)]
    exact subB_congr r _ (fun t ht => h t (by simp [ht]))

theorem spliceC_length {l v : List CV} {o : Nat} (h : o + v.length ≤ l.length) : (spliceC l o v).length = l.length := by
  simp only [spliceC, List.length_append, List.length_take, List.length_drop]; omega

theorem spliceC_get {l v : List CV} {o : Nat} (h : o + v.length ≤ l.length) (i : Nat) : (spliceC l o v)[i]? = if i < o then l[i]? else if i < o + v.length then v[i - o]? else l[i]? := by
  simp only [spliceC, List.getElem?_append, List.length_append, List.length_take, List.getElem?_take, List.getElem?_drop]
  rw [show min o l.length = o by omega]
  repeat' split
  all_goals first | rfl | omega | (congr 1; omega)

theorem spliceC_comm [Ctxt] {l u v : List CV} {o p : Nat} (h1 : o + u.length ≤ l.length) (h2 : p + v.length ≤ l.length) (hd : o + u.length ≤ p ∨ p + v.length ≤ o) :
    spliceC (spliceC l o u) p v = spliceC (spliceC l p v) o u := by
  apply List.ext_getElem?
  intro i
  rw [spliceC_get (by rw [spliceC_length h1]; exact h2), spliceC_get h1, spliceC_get (by rw [spliceC_length h2]; exact h1), spliceC_get h2]
  repeat' split
  all_goals first | rfl | omega

theorem subB_some [Ctxt] {f : Nat → Bool} {k : Nat} : ∀ (l : List Sto) (b : Blk), (∀ s ∈ l, k = s.nm → s.off + s.cs.length ≤ b.cs.length) → ∃ b', subB f k l (some b) = some b' ∧ b'.cs.length = b.cs.length ∧ b'.row = b.row
  | [], b, _ => ⟨b, rfl, rfl, rfl⟩
  | s :: r, b, h => by
    rw [subB]
    split
    · rename_i hs
      have hlen : (splB s b).cs.length = b.cs.length := spliceC_length (h s (by simp) hs.2)
      obtain ⟨b', h1, h2⟩ := subB_some (f := f) r (splB s b) (fun t ht hk => by rw [hlen]; exact h t (by simp [ht]) hk)
      exact ⟨b', h1, h2.1.trans hlen, h2.2⟩
    · exact subB_some r b (fun t ht hk => h t (by simp [ht]) hk)

/-- A store that was left out comes last as well. -/
theorem subB_late [Ctxt] {f : Nat → Bool} {k : Nat} {s : Sto} (hk : k = s.nm) : ∀ (l : List Sto) (b : Blk), (∀ t ∈ l, k = t.nm → t.off + t.cs.length ≤ b.cs.length) → s.off + s.cs.length ≤ b.cs.length →
    (∀ t ∈ l, f t.ix = true → k = t.nm → s.off + s.cs.length ≤ t.off ∨ t.off + t.cs.length ≤ s.off) → subB f k l (some (splB s b)) = (subB f k l (some b)).map (splB s)
  | [], b, _, _, _ => rfl
  | t :: r, b, h, hs, hd => by
    rw [subB, subB]
    split
    · rename_i ht
      have h1 := h t (by simp) ht.2
      have hlen : (splB t b).cs.length = b.cs.length := spliceC_length h1
      have hc : splB t (splB s b) = splB s (splB t b) := by
        simp only [splB, Blk.mk.injEq, and_true]
        exact spliceC_comm hs h1 (hd t (by simp) ht.1 ht.2)
      simp only [Option.map_some, hc]
      exact subB_late hk r (splB t b) (fun t' ht' hk' => by rw [hlen]; exact h t' (by simp [ht']) hk') (by rw [hlen]; exact hs) (fun t' ht' => hd t' (by simp [ht']))
    · exact subB_late hk r b (fun t' ht' => h t' (by simp [ht'])) hs (fun t' ht' => hd t' (by simp [ht']))

def updL (L : Nat → Bool) (i : Nat) : Nat → Bool := fun j => if j = i then true else L j

theorem subB_add [Ctxt] {L : Nat → Bool} {k : Nat} {s : Sto} (hL : L s.ix = false) : ∀ (l : List Sto) (b : Blk), s ∈ l → l.Pairwise (fun s t => s.ix < t.ix) → (∀ t ∈ l, k = t.nm → t.off + t.cs.length ≤ b.cs.length) →
    (∀ t ∈ l, s.ix < t.ix → L t.ix = true → s.nm = t.nm → s.off + s.cs.length ≤ t.off ∨ t.off + t.cs.length ≤ s.off) →
    subB (updL L s.ix) k l (some b) = if k = s.nm then (subB L k l (some b)).map (splB s) else subB L k l (some b)
  | [], _, h, _, _, _ => by simp at h
  | t :: r, b, hs, hp, hf, hd => by
    rw [List.pairwise_cons] at hp
    rw [subB, subB]
    rcases List.mem_cons.1 hs with rfl | hsr
    · have hrest : ∀ (x : Option Blk), subB (updL L s.ix) k r x = subB L k r x := fun x => subB_congr r x (fun t ht => by
        have := hp.1 t ht
        simp only [updL]; rw [if_neg (by omega)])
      rw [hrest, if_neg (c := L s.ix = true ∧ k = s.nm) (by simp [hL])]
      by_cases hk : k = s.nm
      · rw [if_pos hk, if_pos ⟨by simp [updL], hk⟩, Option.map_some]
        exact subB_late hk r b (fun t ht => hf t (by simp [ht])) (hf s (by simp) hk) (fun t ht h1 h2 => hd t (by simp [ht]) (hp.1 t ht) h1 (by rw [← hk]; exact h2))
      · rw [if_neg hk, if_neg (fun h => hk h.2)]
    · have hlt := hp.1 s hsr
      have hu : updL L s.ix t.ix = L t.ix := by simp only [updL]; rw [if_neg (by omega)]
      rw [hu]
      split
      · rename_i ht
        have hlen : (splB t b).cs.length = b.cs.length := spliceC_length (hf t (by simp) ht.2)
        exact subB_add hL r (splB t b) hsr hp.2 (fun t' ht' hk' => by rw [hlen]; exact hf t' (by simp [ht']) hk') (fun t' ht' => hd t' (by simp [ht']))
      · exact subB_add hL r b hsr hp.2 (fun t' ht' => hf t' (by simp [ht'])) (fun t' ht' => hd t' (by simp [ht']))

/-! ### A step beside what others have done -/
theorem Post.congr [Ctxt] {lim : Nat} {e e' : Env} {M M' M2 : Mem} {w w' : World} (h : Post lim e M w e' M' w') (hn : M2.next = M'.next) (ha : ∀ k, M2.at k = M'.at k) : Post lim e M w e' M2 w' :=
  ⟨fun i hi => h.env i (by rw [← hn]; exact hi), h.le, by rw [hn]; exact h.next, fun i hi => by rw [ha]; exact h.low i hi,
    ⟨fun i b hb => by rw [hn]; exact h.rep.wf i b (by rw [← ha]; exact hb), fun i b hb => h.rep.blk i b (by rw [← ha]; exact hb), fun i j b c p q hb hc => h.rep.inj i j b c p q (by rw [← ha]; exact hb) (by rw [← ha]; exact hc), h.rep.pin, by rw [hn]; exact h.rep.pinN, h.rep.rest⟩,
    h.size, h.kept, fun i c p hi hc => h.fresh i c p hi (by rw [← ha]; exact hc), fun i c hi hc => h.old i c hi (by rw [← ha]; exact hc), h.os, h.tape, h.output⟩

theorem Rep.sub [Ctxt] {e : Env} {M M' : Mem} {w : World} (h : Rep e M w) (hs : ∀ k c, M'.at k = some c → M.at k = some c ∧ k < M'.next) (hn : Ctxt.pin ≤ M'.next) : Rep e M' w :=
  ⟨fun i b hb => (hs i b hb).2, fun i b hb => h.blk i b (hs i b hb).1, fun i j b c p q hb hc => h.inj i j b c p q (hs i b hb).1 (hs j c hc).1, h.pin, hn, h.rest⟩

theorem post_frame [Ctxt] {lim : Nat} {e0 e e' : Env} {M0 Mc Mi Mi' Mc' : Mem} {w0 w w' : World} (h : Post lim e0 M0 w0 e Mc w) (hs : ∀ k c, Mi.at k = some c → Mc.at k = some c ∧ k < Mi.next) (hp : Post Mi.next e Mi w e' Mi' w')
    (hlim : lim ≤ M0.next) (ha : M0.next ≤ Mi.next) (hb : Mi'.next ≤ Mc.next) (hn : Mc'.next = Mc.next) (hat : ∀ k, Mc'.at k = if Mi.next ≤ k ∧ k < Mi'.next then Mi'.at k else Mc.at k) : Post lim e0 M0 w0 e' Mc' w' := by
  have hnx := h.next
  have hin := hp.next
  have out : ∀ k, ¬ (Mi.next ≤ k ∧ k < Mi'.next) → e' k = e k := fun k hk => hp.env k (by omega)
  have fresh' : ∀ k c p, Mi.next ≤ k → Mi'.at k = some c → e' k = some p → w.heap.size ≤ p.1 := fun k c p hk hc hpk => by
    rcases hp.fresh k c p hk hc hpk with hf | ⟨j, d, q, hj, hd, _, _⟩
    · exact hf
    · have := (hs j d hd).2; omega
  refine ⟨fun i hi => ?_, h.le.trans hp.le, by omega, fun i hi => ?_, ⟨fun k b hk => ?_, fun k b hk => ?_, fun k j b c p q hk hj hpk hqj hpq => ?_, fun k p hk hpk => ?_, by rw [hn]; exact h.rep.pinN, hp.rep.rest⟩, Nat.le_trans h.size hp.size, fun b hb' hno => ?_, fun k c p hk hc hpk => ?_, fun k c hk hc => ?_, hp.os.trans h.os, hp.tape.trans h.tape, hp.output.trans h.output⟩
  · rw [out i (by omega), h.env i (by omega)]
  · rw [hat, if_neg (by omega)]; exact h.low i hi
  · rw [hat] at hk
    split at hk
    · omega
    · rw [hn]; exact h.rep.wf k b hk
  · rw [hat] at hk
    split at hk
    · exact hp.rep.blk k b hk
    · rename_i hno
      obtain ⟨p, hpk, hB⟩ := h.rep.blk k b hk
      refine ⟨p, by rw [out k hno]; exact hpk, ?_⟩
      cases hik : Mi.at k with
      | some c =>
        have h1 := hs k c hik
        rw [hk] at h1
        have hcb := h1.1
        cases hcb
        have hlow := hp.low k h1.2
        rw [hik] at hlow
        obtain ⟨p', hp', hB'⟩ := hp.rep.blk k b hlow
        rw [out k hno, hpk] at hp'
        cases hp'
        exact hB'
      | none =>
        refine hB.mono hp.le (hp.kept p.1 hB.lt (fun j c q hj hq hqp => ?_))
        have := h.rep.inj j k c b q p (hs j c hj).1 hk hq hpk hqp
        subst this
        rw [hik] at hj; cases hj
  · rw [hat] at hk hj
    split at hk
    · rename_i hki
      split at hj
      · exact hp.rep.inj k j b c p q hk hj hpk hqj hpq
      · rename_i hjo
        rw [out j hjo] at hqj
        obtain ⟨q', hq', hB⟩ := h.rep.blk j c hj
        rw [hqj] at hq'; cases hq'
        have := fresh' k b p hki.1 hk hpk
        have := hB.lt
        omega
    · rename_i hko
      rw [out k hko] at hpk
      split at hj
      · rename_i hji
        obtain ⟨p', hp', hB⟩ := h.rep.blk k b hk
        rw [hpk] at hp'; cases hp'
        have := fresh' j c q hji.1 hj hqj
        have := hB.lt
        omega
      · rename_i hjo
        rw [out j hjo] at hqj
        exact h.rep.inj k j b c p q hk hj hpk hqj hpq
  · exact hp.rep.pin k p hk hpk
  · have hsz := h.size
    rw [hp.kept b (by omega) ?_, h.kept b hb' hno]
    intro k c p hk hpk
    have hc := (hs k c hk).1
    by_cases hk0 : k < M0.next
    · obtain ⟨d, hd⟩ := h.old k c hk0 hc
      exact hno k d p hd (by rw [← h.env k (.inl hk0)]; exact hpk)
    · rcases h.fresh k c p (by omega) hc hpk with hf | ⟨j, d, q, _, hd, hq, hqp⟩
      · omega
      · rw [← hqp]; exact hno j d q hd hq
  · rw [hat] at hc
    split at hc
    · rename_i hki
      have := fresh' k c p hki.1 hc hpk
      have := h.size
      exact .inl (by omega)
    · rename_i hko
      rw [out k hko] at hpk
      exact h.fresh k c p hk hc hpk
  · rw [hat, if_neg (by omega)] at hc
    exact h.old k c hk hc

end Go.Ev
