/- Layer 5 (polygon): Reverse of the reference. -/
import Derived.Test.YtbdlbcnjbafloaaPcO
namespace Go.Proofs.Ytbdlbcnjbafloaa
open Go.RowKit Go.Ev
set_option maxRecDepth 100000
abbrev rvSym (a : Option Addr) (a' : Addr) (n c k m : Nat) (z : Int) (p : Pt) : Tm → Sym
  | .v 60 => intSym .i64 m
  | .v 61 => intSym .i64 (m + 1 : Nat)
  | .v 62 => intSym .i64 (z - 1)
  | .v 63 => intSym .i64 z
  | x => ckSym a a' n c k 0 p (0, 0) x
abbrev rvLst (L : List Pt) (m : Nat) : Tm → List Value
  | .v 20 => ptC (L.reverse.take m)
  | .v 21 => ptC (L.reverse.take (m + 1))
  | _ => []
abbrev rvAbs (L : List Pt) (m : Nat) (r : Bool) : Abs := { lst := rvLst L m, ap := cond r [(.v 20, .v 60, 2, [.sy 5, .sy 6], .v 21, .v 61)] [] }
abbrev rvGe (r : Bool) : List KOp := [(.bin .geq 3, [.sy 63, .clo (iv 0)], .clo (.bool r))]
abbrev rvAt : List KOp := [(.ixa 23, [.sy 0, .sy 63], .sy 4), (.ld tPt, [.sy 4], .agg [.sy 5, .sy 6]), (.bin .sub 3, [.sy 63, .clo (iv 1)], .sy 62)]
theorem rv_ge {a : Option Addr} {a' : Addr} {n c k m : Nat} {z : Int} {p : Pt} {K : World → Prop} {r : Bool} (h : decide (0 ≤ z) = r) : ∀ q ∈ rvGe r, OpAt Try.prog (rvSym a a' n c k m z p) K q := by
  intro q hq
  simp only [rvGe, List.mem_cons, List.not_mem_nil, or_false] at hq
  subst hq
  exact OpIs.at ⟨[iv z, iv 0], _, rfl, rfl, tells_geq h⟩ K
theorem rv_at {B : Nat} {L : List Pt} {a' : Addr} {c k m : Nat} {z : Int} {p : Pt} (hz : z = k) (hp : L[k]? = some p) (hk6 : k < 1000000) : ∀ q ∈ rvAt, OpAt Try.prog (rvSym (some a') a' L.length c k m z p) (ptsK B L (some a')) q := by
  have hk : k < L.length := (List.getElem?_eq_some_iff.1 hp).1
  subst hz
  intro q hq
  simp only [rvAt, List.mem_cons, List.not_mem_nil, or_false] at hq
  rcases hq with rfl | rfl | rfl
  · exact OpIs.at ⟨[.slice (some a') L.length c, iv k], .pointer (some (a'.add (k * 2))), rfl, rfl, tells_ixa (e := tPt) (by kernel_rfl) (by kernel_rfl) hk⟩ _
  · exact ⟨[.pointer (some (a'.add (k * 2)))], .agg #[iv p.1, iv p.2], rfl, rfl, PtsAt.ld (by kernel_rfl) (by kernel_rfl) (fun w hw => hw) hp⟩
  · exact OpIs.at ⟨[iv k, iv 1], iv ((k : Int) - 1), rfl, rfl, tells_sub (by rw [IntKind.wrap_i64]; omega)⟩ _
theorem ptC_append (L M : List Pt) : ptC (L ++ M) = ptC L ++ ptC M := by unfold ptC; rw [List.flatMap_append]
theorem rv_ok {L : List Pt} {a : Option Addr} {a' : Addr} {n c k m : Nat} {z : Int} {p : Pt} {r : Bool} (hr : r = true → L.reverse[m]? = some p ∧ m < 999999) : (rvAbs L m r).OK Try.prog (rvSym a a' n c k m z p) := by
  cases r
  · exact ⟨(fun _ h => by cases h), (fun _ h => by cases h), (fun _ h => by cases h), (fun _ h => by cases h), (fun _ h => by cases h)⟩
  · obtain ⟨hp, hm⟩ := hr rfl
    have hml : m < L.reverse.length := (List.getElem?_eq_some_iff.1 hp).1
    refine ⟨(fun _ h => by cases h), (fun _ h => by cases h), (fun _ h => by cases h), fun q hq => ?_, (fun _ h => by cases h)⟩
    simp only [cond_true, List.mem_cons, List.not_mem_nil, or_false] at hq
    subst hq
    refine ⟨[iv p.1, iv p.2], m, 1, rfl, rfl, ?_, rfl, ?_, rfl, by omega⟩
    · show (ptC (L.reverse.take m)).length = m * 2
      rw [ptC_len, List.length_take]; omega
    · show ptC (L.reverse.take (m + 1)) = ptC (L.reverse.take m) ++ _
      rw [List.take_add_one, hp, ptC_append]; rfl
abbrev rvC (B : Nat) (L : List Pt) (a : Option Addr) (a' : Addr) (n c k m : Nat) (z : Int) (p : Pt) (r : Bool) (lv : List KOp) : Ctxt := toldX (rvSym a a' n c k m z p) (rvAbs L m r) [] [] lv (ptsK B L a) B pts_kst
theorem rRev_any (B : Nat) (L : List Pt) (a : Option Addr) (c : Nat) (hn0 : L.length ≤ 100000) (w : World) (hP : PtsAt B L a w) (hB : B ≤ w.heap.size) :
    Calls Try.prog 13 #[.slice a L.length c] w fun e w' => Below w.heap.size w w' ∧ ∃ p : Nat × Nat, w.heap.size ≤ p.1 ∧ RowIs (ptC L.reverse) tPt 2 p w' ∧ e = .returned (.slice (some ⟨p.1, 0, none⟩) L.length p.2) := by
  obtain ⟨n, hn⟩ : ∃ n, n = L.length := ⟨_, rfl⟩
  rw [← hn]
  have HH := Lib.hid (And.intro hn (And.intro hP (And.intro hB hn0)))
  have hw : IntKind.i64.wrap ((n : Int) - 1) = (n : Int) - 1 := by rw [IntKind.wrap_i64]; omega
  clear hn hP hB hn0
  go_enter Try.func13, Try.ntmps13
  go_wp2_with fail
  rename_i Q' K hK
  obtain ⟨hn, hP, hB, hn0⟩ := HH.out
  clear HH hw
  refine wp_loop (fun x w' => ∃ (m : Nat) (p : Nat × Nat), m ≤ n ∧ Tmps 21 [(0, .slice a n c), (3, .slice (some ⟨p.1, 0, none⟩) m p.2), (4, iv ((n : Int) - 1 - m))] x ∧ w.heap.size ≤ p.1 ∧ RowIs (ptC (L.reverse.take m)) tPt 2 p w' ∧ Below w.heap.size w w') (fun x _ => (intOf (x.tmps.getD 4 undef) + 1).toNat) ⟨0, (w.heap.size, 0), Nat.zero_le _, ⟨by simp, rfl, ?_⟩, Nat.le_refl _, ⟨#[], heap_alloc_new _ _, rfl, rfl, Nat.zero_le _⟩, (Below.refl _ w).alloc (Nat.le_refl _) _⟩ ?_
  · repeat' (first | exact List.forall_mem_nil _ | refine List.forall_mem_cons.2 ⟨by first | rfl | simp, ?_⟩)
  rintro a1 w1 ⟨m, p, hm, hs1, hge, hr1, hb1⟩
  have hP1 := hP.below hb1 hB
  have hB1 := Nat.le_trans hB hb1.size
  have hpB := Nat.le_trans hB hge
  obtain ⟨z, hz⟩ : ∃ z, z = (n : Int) - 1 - m := ⟨_, rfl⟩
  rw [← hz] at hs1
  by_cases hmn : m < n
  · obtain ⟨k, hk⟩ : ∃ k, k = n - 1 - m := ⟨_, rfl⟩
    have hzk : z = k := by omega
    obtain ⟨q, hq⟩ : ∃ q, L[k]? = some q := ⟨L[k]'(by omega), by simp [show k < L.length by omega]⟩
    obtain ⟨a', rfl⟩ := hP.ex (by omega)
    have hrq : L.reverse[m]? = some q := by
      rw [List.getElem?_reverse (by omega), ← hq, hk, hn]
    have hk1 : @KnownOK (rvC B L (some a') a' n c k m z q true (rvGe true ++ rvAt)) Try.prog := known_toldX (rv_ok fun _ => ⟨hrq, by omega⟩) (fun _ h => by cases h) (fun _ h => by cases h) (fun _ h => by cases h) (fun x hx => (List.mem_append.1 hx).elim (rv_ge (decide_eq_true (by omega)) x) fun h => by
      rw [hn]
      exact rv_at hzk hq (by omega) x h)
    have h3 : a1.tmps.getD 4 undef = iv z := hs1.tmps (4, iv z) (by simp)
    refine @code_R (rvC B L (some a') a' n c k m z q true (rvGe true ++ rvAt)) Try.prog hmix hk1 rfl 300 _ 21 [(0, .sy 0), (3, .as 0 (.v 60)), (4, .sy 63)] (.v 20) tPt 2 .normal [(0, .sy 0), (3, .as 2 (.v 61)), (4, .sy 62)] 2 (.v 21) a1 w1 p (fun u => by kernel_rfl) hs1.size hs1.defers
      (@tmps_in (rvC B L (some a') a' n c k m z q true (rvGe true ++ rvAt)) _ 21 a1 _ _ hs1 rfl) hr1 hP1 hB1 hpB _ ?_
    intro e2 a2 w2 p2 hs2 hd2 ht2 _ he2 hr2 _ hp2 hn2
    have hs2 : Tmps 21 [(0, .slice (some a') n c), (3, .slice (some ⟨p2.1, 0, none⟩) (m + 1) p2.2), (4, iv (z - 1))] a2 := @tmps_of (rvC B L (some a') a' n c k m z q true (rvGe true ++ rvAt)) e2 21 a2 _ _ hs2 hd2 ht2 (by
      simp only [List.map_cons, List.map_nil]
      rw [@den_asI (rvC B L (some a') a' n c k m z q true (rvGe true ++ rvAt)) e2 2 (.v 61) p2 (m + 1) he2 rfl]
      rfl)
    have hz2 : z - 1 = (n : Int) - 1 - (m + 1 : Nat) := by omega
    have hs3 := hs2
    rw [hz2] at hs3
    refine ⟨⟨m + 1, p2, by omega, hs3, ?_, hr2, hn2.below hb1 (fun q hq => by simp at hq; subst hq; exact hge)⟩, ?_⟩
    · rcases hp2 with h | h
      · exact Nat.le_trans hb1.size h
      · rw [h]; exact hge
    · have h4 : a2.tmps.getD 4 undef = iv (z - 1) := hs2.tmps (4, iv (z - 1)) (by simp)
      rw [h3, h4]
      simp only [intOf]; omega
  · have hmm : m = n := by omega
    subst hmm
    have hk1 : @KnownOK (rvC B L a ⟨0, 0, none⟩ m c 0 m z (0, 0) false (rvGe false)) Try.prog := known_toldX (rv_ok fun h => by cases h) (fun _ h => by cases h) (fun _ h => by cases h) (fun _ h => by cases h) (rv_ge (decide_eq_false (by omega)))
    refine @code_R (rvC B L a ⟨0, 0, none⟩ m c 0 m z (0, 0) false (rvGe false)) Try.prog hmix hk1 rfl 300 _ 21 [(3, .as 0 (.v 60)), (4, .sy 63)] (.v 20) tPt 2 (.exit 0) [(3, .as 0 (.v 60))] 0 (.v 20) a1 w1 p (fun u => by kernel_rfl) hs1.size hs1.defers
      (@tmps_in (rvC B L a ⟨0, 0, none⟩ m c 0 m z (0, 0) false (rvGe false)) _ 21 a1 _ [(3, .slice (some ⟨p.1, 0, none⟩) m p.2), (4, iv z)] ⟨hs1.size, hs1.defers, fun x hx => hs1.tmps x (by simp at hx ⊢; rcases hx with h | h <;> simp [h])⟩ rfl) hr1 hP1 hB1 hpB _ ?_
    intro e2 a2 w2 p2 hs2 hd2 ht2 he0 he2 hr2 _ _ hn2
    rw [he0] at he2; cases he2
    have hs2 : Tmps 21 [(3, .slice (some ⟨p.1, 0, none⟩) m p.2)] a2 := @tmps_of (rvC B L a ⟨0, 0, none⟩ m c 0 m z (0, 0) false (rvGe false)) e2 21 a2 _ _ hs2 hd2 ht2 (by
      simp only [List.map_cons, List.map_nil]
      rw [@den_asI (rvC B L a ⟨0, 0, none⟩ m c 0 m z (0, 0) false (rvGe false)) e2 0 (.v 60) p m he0 rfl]
      rfl)
    have hr2 : RowIs (ptC (L.reverse.take m)) tPt 2 p w2 := hr2
    have hb2 := hn2.below hb1 (fun q hq => by simp at hq; subst hq; exact hge)
    have hP2 := hP.below hb2 hB
    have hB2 := Nat.le_trans hB hb2.size
    simp only [Ex.to, Exit.then, Exit.inBlock, if_true]
    refine hK _ _ ?_
    refine @code_R (rvC B L a ⟨0, 0, none⟩ m c 0 m z (0, 0) false (rvGe false)) Try.prog hmix hk1 rfl 300 _ 21 [(3, .as 0 (.v 60))] (.v 20) tPt 2 .ret [(2, .as 0 (.v 60))] 0 (.v 20) a2 w2 p (fun u => by kernel_rfl) hs2.size hs2.defers
      (@tmps_in (rvC B L a ⟨0, 0, none⟩ m c 0 m z (0, 0) false (rvGe false)) _ 21 a2 _ _ hs2 rfl) hr2 hP2 hB2 hpB _ ?_
    intro e6 a6 w6 p6 hs6 hd6 ht6 he0 he6 hr6 _ _ hn6
    rw [he0] at he6; cases he6
    have hb6 := hn6.below hb2 (fun q hq => by simp at hq; subst hq; exact hge)
    have h4 := ht6 (2, .as 0 (.v 60)) (by simp)
    rw [@den_asI (rvC B L a ⟨0, 0, none⟩ m c 0 m z (0, 0) false (rvGe false)) e6 0 (.v 60) p m he0 rfl] at h4
    have h4 := (Option.some.inj h4).symm
    have hr6 : RowIs (ptC (L.reverse.take m)) tPt 2 p w6 := hr6
    rw [List.take_of_length_le (by rw [List.length_reverse]; omega)] at hr6
    rw [Array.getD_eq_getD_getElem?] at h4
    simp only [Ex.to]
    simp [Q', bodyPost, results, Try.results13, go_sem, h4]
    exact ⟨hd6, hb6, hge, hr6⟩
end Go.Proofs.Ytbdlbcnjbafloaa
