/- Layer 5 (polygon): doubled areas. -/
import Derived.Test.YtbdlbcnjbafloaaPcG
namespace Go.Proofs.Ytbdlbcnjbafloaa
open Go.RowKit Go.Ev
set_option maxRecDepth 100000
theorem opKey_fda {o : Op} {t : TypeId} {f : Nat} {xs : List Operand} (h : opKey o = some (.fda t f, xs)) : ∃ x, o = .fieldAddr t x f ∧ xs = [x] := by
  unfold opKey at h
  repeat' split at h
  all_goals simp at h
  rename_i t' x f'
  obtain ⟨⟨rfl, rfl⟩, rfl⟩ := h
  exact ⟨x, rfl, rfl⟩
/-- Where a field lies in its struct, if it has cells. -/
def fldOff (P : Program) (t : TypeId) (f : Nat) : Option Nat :=
  match P.underlying t with
  | some (.struct fs) => match fs[f]? with
    | some fd => match P.info? fd.type with
      | some i => if i.size = 0 then none else some fd.offset
      | none => none
    | none => none
  | _ => none
theorem tells_fda {P : Program} {t : TypeId} {f off : Nat} {a : Addr} (h : fldOff P t f = some off) : Tells P (.fda t f) [.pointer (some a)] (.pointer (some (a.add off))) := by
  intro o ρ xs hq hx w
  obtain ⟨dst, oo, type, pos, after, guard⟩ := o
  obtain ⟨x, ho, rfl⟩ := opKey_fda hq
  simp only at ho; subst ho
  simp at hx
  unfold fldOff at h
  split at h
  · rename_i fs hu
    split at h
    · rename_i fd hf
      split at h
      · rename_i i hi
        split at h
        · cases h
        · rename_i hz
          cases h
          simp [execOp, hx, Instr.fieldAt, run_underlying hu, hf, Instr.sureAddr, fieldPlace, sizeOf, typeInfo, hi, hz]
      · cases h
    · cases h
  · cases h
theorem tells_ld1 {P : Program} {K : World → Prop} {t : TypeId} {a : Addr} {v : Value} (hr : (P.underlying t).map (·.isRow) = some false)
    (hc : ∀ w, K w → w.cell? a = some v) : TellsIn P K (.ld t) [.pointer (some a)] v := by
  obtain ⟨d, hu, hd⟩ := Option.map_eq_some_iff.1 hr
  intro o ρ xs hq hx w hw
  obtain ⟨dst, oo, type, pos, after, guard⟩ := o
  obtain ⟨x, ho, rfl⟩ := opKey_ld hq
  simp only at ho; subst ho
  simp at hx
  have hagg : (isAgg t).run P w = .ok false w := by
    unfold isAgg
    rw [Sem.run_bind, run_underlying hu w]
    cases d <;> simp_all
  have hl := hc w hw
  simp [execOp, Instr.loadAt, hx, Instr.sureAddr, loadVar, Sem.run_bind, hagg, hl]
abbrev Wr (z : Int) : Int := IntKind.i64.wrap z
def arT (p q : Pt) : Int := Wr (Wr (p.1 * q.2) - Wr (q.1 * p.2))
/-- The sum of the first products. -/
def arS (L : List Pt) : Nat → Int
  | 0 => 0
  | k + 1 => Wr (arS L k + arT (nth L k) (nth L ((k + 1) % L.length)))
abbrev arSym (a : Option Addr) (a' : Addr) (n c k j : Nat) (p q : Pt) (s : Int) : Tm → Sym
  | .v 21 => ptSym ((a'.add (k * 2)).add 1)
  | .v 22 => ptSym ((a'.add (j * 2)).add 1)
  | .v 23 => intSym .i64 (Wr (p.1 * q.2))
  | .v 24 => intSym .i64 (Wr (q.1 * p.2))
  | .v 25 => intSym .i64 (arT p q)
  | .v 26 => intSym .i64 s
  | .v 27 => intSym .i64 (Wr (s + arT p q))
  | x => ckSym a a' n c k j p q x
abbrev arLss (m : Bool) : List KOp := [(.ln 23, [.sy 0], .sy 3), (.bin .lss 3, [.sy 1, .sy 3], .clo (.bool m))]
abbrev arMul (t : TypeId) : List KOp := [(.bin .mul t, [.sy 5, .sy 10], .sy 23), (.bin .mul t, [.sy 9, .sy 6], .sy 24), (.bin .sub t, [.sy 23, .sy 24], .sy 25), (.bin .add t, [.sy 26, .sy 25], .sy 27), (.bin .add 3, [.sy 1, .clo (iv 1)], .sy 2)]
abbrev arAt : List KOp := [(.ixa 23, [.sy 0, .sy 1], .sy 4), (.ixa 23, [.sy 0, .sy 7], .sy 8), (.fda 31 0, [.sy 4], .sy 4), (.fda 31 0, [.sy 8], .sy 8), (.fda 31 1, [.sy 4], .sy 21), (.fda 31 1, [.sy 8], .sy 22),
  (.ld 3, [.sy 4], .sy 5), (.ld 3, [.sy 21], .sy 6), (.ld 3, [.sy 8], .sy 9), (.ld 3, [.sy 22], .sy 10)]
theorem ar_lss {a : Option Addr} {a' : Addr} {n c k j : Nat} {p q : Pt} {s : Int} {K : World → Prop} {m : Bool} (h : decide (k < n) = m) : ∀ r ∈ arLss m, OpAt Try.prog (arSym a a' n c k j p q s) K r := by
  intro r hr
  simp only [arLss, List.mem_cons, List.not_mem_nil, or_false] at hr
  rcases hr with rfl | rfl
  · exact OpIs.at ⟨[.slice a n c], iv n, rfl, rfl, tells_ln (e := 31) (by kernel_rfl)⟩ K
  · exact OpIs.at ⟨[iv k, iv n], _, rfl, rfl, tells_lss (by rw [← h, decide_eq_decide]; omega)⟩ K
theorem ar_mul {a : Option Addr} {a' : Addr} {n c k j : Nat} {p q : Pt} {s : Int} {K : World → Prop} {t : TypeId} (hk : k < 1000000) : ∀ r ∈ arMul t, OpAt Try.prog (arSym a a' n c k j p q s) K r := by
  intro r hr
  simp only [arMul, List.mem_cons, List.not_mem_nil, or_false] at hr
  rcases hr with rfl | rfl | rfl | rfl | rfl
  · exact OpIs.at ⟨[iv p.1, iv q.2], iv (Wr (p.1 * q.2)), rfl, rfl, tells_mul rfl⟩ K
  · exact OpIs.at ⟨[iv q.1, iv p.2], iv (Wr (q.1 * p.2)), rfl, rfl, tells_mul rfl⟩ K
  · exact OpIs.at ⟨[iv (Wr (p.1 * q.2)), iv (Wr (q.1 * p.2))], iv (arT p q), rfl, rfl, tells_sub rfl⟩ K
  · exact OpIs.at ⟨[iv s, iv (arT p q)], iv (Wr (s + arT p q)), rfl, rfl, tells_add rfl⟩ K
  · exact OpIs.at ⟨[iv k, iv 1], iv (k + 1 : Nat), rfl, rfl, tells_add (by rw [IntKind.wrap_i64]; omega)⟩ K
theorem pt_cells {B : Nat} {L : List Pt} {a' : Addr} {k : Nat} {p : Pt} {w : World} (h : PtsAt B L (some a') w) (hp : L[k]? = some p) : w.cell? (a'.add (k * 2)) = some (iv p.1) ∧ w.cell? ((a'.add (k * 2)).add 1) = some (iv p.2) := by
  obtain ⟨g1, g2⟩ := ptC_get L k p hp
  have hc := (h.cell a' rfl).2
  exact ⟨hc _ _ g1, by rw [add_add]; exact hc _ _ g2⟩
theorem ar_at {B : Nat} {L : List Pt} {a' : Addr} {c k j : Nat} {p q : Pt} {s : Int} (hp : L[k]? = some p) (hq : L[j]? = some q) : ∀ r ∈ arAt, OpAt Try.prog (arSym (some a') a' L.length c k j p q s) (ptsK B L (some a')) r := by
  have hk : k < L.length := (List.getElem?_eq_some_iff.1 hp).1
  have hj : j < L.length := (List.getElem?_eq_some_iff.1 hq).1
  intro r hr
  simp only [arAt, List.mem_cons, List.not_mem_nil, or_false] at hr
  rcases hr with rfl | rfl | rfl | rfl | rfl | rfl | rfl | rfl | rfl | rfl
  · exact OpIs.at ⟨[.slice (some a') L.length c, iv k], .pointer (some (a'.add (k * 2))), rfl, rfl, tells_ixa (e := 31) (by kernel_rfl) (by kernel_rfl) hk⟩ _
  · exact OpIs.at ⟨[.slice (some a') L.length c, iv j], .pointer (some (a'.add (j * 2))), rfl, rfl, tells_ixa (e := 31) (by kernel_rfl) (by kernel_rfl) hj⟩ _
  · exact OpIs.at ⟨[.pointer (some (a'.add (k * 2)))], _, rfl, rfl, tells_fda (off := 0) (by kernel_rfl)⟩ _
  · exact OpIs.at ⟨[.pointer (some (a'.add (j * 2)))], _, rfl, rfl, tells_fda (off := 0) (by kernel_rfl)⟩ _
  · exact OpIs.at ⟨[.pointer (some (a'.add (k * 2)))], _, rfl, rfl, tells_fda (off := 1) (by kernel_rfl)⟩ _
  · exact OpIs.at ⟨[.pointer (some (a'.add (j * 2)))], _, rfl, rfl, tells_fda (off := 1) (by kernel_rfl)⟩ _
  · exact ⟨[.pointer (some (a'.add (k * 2)))], iv p.1, rfl, rfl, tells_ld1 (by kernel_rfl) fun w hw => (pt_cells hw hp).1⟩
  · exact ⟨[.pointer (some ((a'.add (k * 2)).add 1))], iv p.2, rfl, rfl, tells_ld1 (by kernel_rfl) fun w hw => (pt_cells hw hp).2⟩
  · exact ⟨[.pointer (some (a'.add (j * 2)))], iv q.1, rfl, rfl, tells_ld1 (by kernel_rfl) fun w hw => (pt_cells hw hq).1⟩
  · exact ⟨[.pointer (some ((a'.add (j * 2)).add 1))], iv q.2, rfl, rfl, tells_ld1 (by kernel_rfl) fun w hw => (pt_cells hw hq).2⟩
abbrev arC (B : Nat) (L : List Pt) (a : Option Addr) (a' : Addr) (n c k j : Nat) (p q : Pt) (s : Int) (lc : List KCall) (lv : List KOp) : Ctxt := toldK 0 (arSym a a' n c k j p q s) lc [] lv (ptsK B L a) B pts_kst
theorem rArea2_any (B : Nat) (L : List Pt) (a' : Addr) (c : Nat) (h0 : 0 < L.length) (h1 : L.length < 100000) (w : World) (hP : PtsAt B L (some a') w) (hB : B ≤ w.heap.size) :
    Calls Try.prog 15 #[.slice (some a') L.length c] w fun e w' => e = .returned (iv (arS L L.length)) ∧ Below w.heap.size w w' := by
  obtain ⟨n, hn⟩ : ∃ n, n = L.length := ⟨_, rfl⟩
  rw [← hn]
  have hk0 : @KnownOK (arC B L (some a') a' n c 0 0 (0, 0) (0, 0) 0 [] []) Try.prog := known_toldK 0 _ _ _ _ _ _ _ (fun _ h => by cases h) (fun _ h => by cases h) (fun _ h => by cases h)
  go_enter Try.func15, Try.ntmps15
  refine @code_TL (arC B L (some a') a' n c 0 0 (0, 0) (0, 0) 0 [] []) Try.prog hmix hk0 rfl 300 [_, _] _ 41 [(0, .sy 0)] [(0, .sy 0), (3, .clo (iv 0))] [(0, .slice (some a') n c)] [(0, .slice (some a') n c), (3, iv 0)] _ w (fun u => by kernel_rfl) rfl rfl ⟨rfl, rfl, fun x hx => by simp at hx; subst hx; rfl⟩ hP hB _ ?_
  intro a1 w1 hs1 hb1
  have hP1 := hP.below hb1 hB
  have hB1 := Nat.le_trans hB hb1.size
  refine wp_seq ?_
  refine @code_TL (arC B L (some a') a' n c 0 0 (0, 0) (0, 0) 0 [] []) Try.prog hmix hk0 rfl 300 [_] _ 41 [(0, .sy 0), (3, .clo (iv 0))] [(0, .sy 0), (3, .clo (iv 0)), (4, .clo (iv 0))] [(0, .slice (some a') n c), (3, iv 0)] [(0, .slice (some a') n c), (3, iv 0), (4, iv 0)] _ w1 (fun u => by kernel_rfl) rfl rfl hs1 hP1 hB1 _ ?_
  intro a2 w2 hs2 hb2
  have hb2' := hb1.trans (hb2.mono hb1.size)
  clear hb2 hs1 hP1 hB1
  refine wp_block ?_
  refine wp_loop (fun x w' => ∃ k : Nat, k ≤ n ∧ Tmps 41 [(0, .slice (some a') n c), (3, iv (arS L k)), (4, iv k)] x ∧ Below w.heap.size w w') (fun x _ => n - (intOf (x.tmps.getD 4 undef)).toNat) ⟨0, Nat.zero_le _, hs2, hb2'⟩ ?_
  rintro a3 w3 ⟨k, hk, hs3, hb3⟩
  have hP3 := hP.below hb3 hB
  have hB3 := Nat.le_trans hB hb3.size
  by_cases hkn : k < n
  · obtain ⟨q1, hq1⟩ : ∃ q, L[k]? = some q := ⟨L[k]'(by omega), by simp [show k < L.length by omega]⟩
    obtain ⟨j, hjj⟩ : ∃ j, j = (k + 1) % L.length := ⟨_, rfl⟩
    have hjl : j < L.length := by rw [hjj]; exact Nat.mod_lt _ h0
    obtain ⟨q2, hq2⟩ : ∃ q, L[j]? = some q := ⟨L[j]'hjl, by simp [hjl]⟩
    have hk1 : @KnownOK (arC B L (some a') a' n c k j q1 q2 (arS L k) [(23, [.sy 0, .sy 1], .sy 7)] (arLss true ++ (arMul 3 ++ arAt))) Try.prog := known_toldK 0 _ _ _ _ _ _ _ (fun z hz => by
        simp only [List.mem_cons, List.not_mem_nil, or_false] at hz
        subst hz
        refine ⟨[.slice (some a') n c, iv k], iv j, rfl, rfl, fun w _ => ?_⟩
        have := next_any (some a') n c k (by omega) (by omega) (by omega) w
        rw [hjj, ← hn]
        exact this) (fun _ h => by cases h) (fun z hz => (List.mem_append.1 hz).elim (ar_lss (decide_eq_true hkn) z) fun h => (List.mem_append.1 h).elim (ar_mul (by omega) z) fun h => by
          rw [hn]
          exact ar_at hq1 hq2 z h)
    have h3 : a3.tmps.getD 4 undef = iv k := hs3.tmps (4, iv k) (by simp)
    refine @code_T (arC B L (some a') a' n c k j q1 q2 (arS L k) [(23, [.sy 0, .sy 1], .sy 7)] (arLss true ++ (arMul 3 ++ arAt))) Try.prog hmix hk1 rfl 300 _ 41 [(0, .sy 0), (3, .sy 26), (4, .sy 1)] .normal [(0, .sy 0), (3, .sy 27), (4, .sy 2)] [(0, .slice (some a') n c), (3, iv (arS L k)), (4, iv k)] [(0, .slice (some a') n c), (3, iv (Wr (arS L k + arT q1 q2))), (4, iv (k + 1 : Nat))] _ w3 (fun u => by kernel_rfl) rfl rfl hs3 hP3 hB3 _ ?_
    intro a4 w4 hs4 hb4
    have hs5 : arS L (k + 1) = Wr (arS L k + arT q1 q2) := by
      show Wr (arS L k + arT (nth L k) (nth L ((k + 1) % L.length))) = _
      rw [nth_some hq1, ← hjj, nth_some hq2]
    refine ⟨⟨k + 1, by omega, by rw [hs5]; exact hs4, hb3.trans (hb4.mono hb3.size)⟩, ?_⟩
    have h4 : a4.tmps.getD 4 undef = iv (k + 1 : Nat) := hs4.tmps (4, iv (k + 1 : Nat)) (by simp)
    rw [h3, h4]
    simp only [intOf]; omega
  · have hkk : k = n := by omega
    subst hkk
    have hk1 : @KnownOK (arC B L (some a') a' k c k 0 (0, 0) (0, 0) (arS L k) [] (arLss false)) Try.prog := known_toldK 0 _ _ _ _ _ _ _ (fun _ h => by cases h) (fun _ h => by cases h) (ar_lss (decide_eq_false hkn))
    refine @code_T (arC B L (some a') a' k c k 0 (0, 0) (0, 0) (arS L k) [] (arLss false)) Try.prog hmix hk1 rfl 300 _ 41 [(0, .sy 0), (3, .sy 26), (4, .sy 1)] (.exit 0) [(3, .sy 26)] [(0, .slice (some a') k c), (3, iv (arS L k)), (4, iv k)] [(3, iv (arS L k))] _ w3 (fun u => by kernel_rfl) rfl rfl hs3 hP3 hB3 _ ?_
    intro a4 w4 hs4 hb4
    have hb4' := hb3.trans (hb4.mono hb3.size)
    have hP4 := hP.below hb4' hB
    have hB4 := Nat.le_trans hB hb4'.size
    simp only [Ex.to, Exit.then, Exit.inBlock, if_true]
    refine @code_T (arC B L (some a') a' k c k 0 (0, 0) (0, 0) (arS L k) [] (arLss false)) Try.prog hmix hk1 rfl 300 _ 41 [(3, .sy 26)] .ret [(2, .sy 26)] [(3, iv (arS L k))] [(2, iv (arS L k))] _ w4 (fun u => by kernel_rfl) rfl rfl hs4 hP4 hB4 _ ?_
    intro a5 w5 hs5 hb5
    have h4 : a5.tmps.getD 2 undef = iv (arS L k) := hs5.tmps (2, iv (arS L k)) (by simp)
    rw [Array.getD_eq_getD_getElem?] at h4
    simp only [Ex.to]
    simp [bodyPost, results, Try.results15, go_sem, h4]
    exact ⟨hs5.defers, hb4'.trans (hb5.mono hb4'.size)⟩
end Go.Proofs.Ytbdlbcnjbafloaa
