/- common. -/
import Derived.Test.YtbhkbhaepefdgaaDoorSpQ
import Derived.Test.YtbhkbhaepefdgaaDoorSpN
import Derived.Deep.RegionHeld3
import Derived.Test.YtbhkbhaepefdgaaDoorSpX
namespace Go.Proofs.YtbhkbhaepefdgaaDoor
open Go.RowKit

/-- A slice value with its capacity that reads as the intervals xs. -/
def SliceC (w : World) (B : Nat) (v : Value) (xs : List Iv) : Prop := ∃ A c, v = .slice A xs.length c ∧ xs.length ≤ c ∧ Lies w B A xs
theorem SliceC.below {w w' : World} {B B' : Nat} {v : Value} {xs : List Iv} (h : SliceC w B v xs) (hb : Below B' w w') (hB : B ≤ B') : SliceC w' B v xs := by
  obtain ⟨A, c, hv, h1, hL⟩ := h
  exact ⟨A, c, hv, h1, hL.below hb hB⟩
theorem OwnIv.sliceC {w : World} {base : Nat} {v : Value} {xs : List Iv} (h : OwnIv w base v xs) : SliceC w w.heap.size v xs := by
  rcases h.2 with ⟨rfl, hn⟩ | ⟨g, cap, cur, rfl, _, hg, h1, h2, h3, ht⟩
  · obtain rfl := List.eq_nil_of_length_eq_zero hn
    exact ⟨none, 0, rfl, Nat.le_refl _, fun h => absurd h (Nat.not_lt_zero _)⟩
  · refine ⟨some ⟨g, 0, none⟩, cap, rfl, by omega, lies_row hg (Array.getElem?_eq_some_iff.1 hg).1 fun k hk => ?_⟩
    have hc := cellsIv_get xs k hk
    rw [← ht, List.getElem?_take, List.getElem?_take, if_pos (by omega), if_pos (by omega)] at hc
    simpa using hc
theorem Lies.rest {w : World} {B g o : Nat} {x : Iv} {xs : List Iv} (h : Lies w B (some ⟨g, o, none⟩) (x :: xs)) : Lies w B (some ⟨g, o + 2, none⟩) xs := fun hn => by
  obtain ⟨g', o', hA, hg, hc⟩ := h (by simp)
  simp only [Option.some.injEq, Addr.mk.injEq, and_true] at hA
  obtain ⟨rfl, rfl⟩ := hA
  refine ⟨g, o + 2, rfl, hg, fun k hk => ?_⟩
  have := hc (k + 1) (by simpa using hk)
  rw [show o + (k + 1) * 2 = o + 2 + k * 2 by omega] at this
  simpa using this
def lenV : Value → Nat
  | .slice _ n _ => n
  | _ => 0
theorem ownN {w : World} {base : Nat} {v : Value} {xs : List Iv} (h : OwnIv w base v xs) {n : Nat} : OwnIv (w.drewN n) base v xs := h
theorem lies_if {w : World} {B g o c : Nat} {X : List Iv} {n : Nat} (hc : X.length + 1 ≤ c) (h : Lies w B (some ⟨g, o + 2, none⟩) X) : Lies (w.drewN n) B (if c = 1 then some ⟨g, o, none⟩ else some ⟨g, o + 2, none⟩) X := by
  split
  · next h1 =>
    intro hn
    omega
  · exact h
theorem lies_both {w w' : World} {B Z g o : Nat} {a b : Int} {X : List Iv} {n : Nat} (h1 : w.cell? ⟨g, o, none⟩ = some (.int .i64 a)) (h2 : w.cell? ⟨g, o + 1, none⟩ = some (.int .i64 b)) (hg : g < B) (h : Lies w B (some ⟨g, o + 2, none⟩) X) (hb : Below Z w w') (hB : B ≤ Z) :
    Lies (w'.drewN n) B (some ⟨g, o, none⟩) ((a, b) :: X) := fun _ => by
  have h' := h.below hb hB
  refine ⟨g, o, rfl, hg, fun k hk => ?_⟩
  cases k with
  | zero =>
    refine ⟨?_, ?_⟩
    · exact (hb.cell (p := ⟨g, o + 0 * 2, none⟩) (by show g < _; omega)).trans (by simpa using h1)
    · exact (hb.cell (p := ⟨g, o + 0 * 2 + 1, none⟩) (by show g < _; omega)).trans (by simpa using h2)
  | succ k =>
    obtain ⟨g', o', hA, _, hc⟩ := h' (by simp at hk; omega)
    simp only [Option.some.injEq, Addr.mk.injEq, and_true] at hA
    obtain ⟨rfl, rfl⟩ := hA
    have := hc k (by simpa using hk)
    rw [show o + (k + 1) * 2 = o + 2 + k * 2 by omega]
    simpa using this
theorem kc {w0 w1 w2 : World} {p q r s : Addr} {a b c d : Value} (hp : p.block < w0.heap.size) (hq : q.block < w0.heap.size) (hr : r.block < w0.heap.size) (hs : s.block < w0.heap.size)
    (h : w1.cell? p = some a ∧ w1.cell? q = some b ∧ w1.cell? r = some c ∧ w1.cell? s = some d ∧ Below w0.heap.size w0 w1) (hb : Below w0.heap.size w1 w2) :
    w2.cell? p = some a ∧ w2.cell? q = some b ∧ w2.cell? r = some c ∧ w2.cell? s = some d ∧ Below w0.heap.size w0 w2 :=
  ⟨(hb.cell hp).trans h.1, (hb.cell hq).trans h.2.1, (hb.cell hr).trans h.2.2.1, (hb.cell hs).trans h.2.2.2.1, h.2.2.2.2.trans hb⟩
theorem kca {w0 w1 : World} {p q r s : Addr} {a b c d : Value} {ob : Obj} (h : w1.cell? p = some a ∧ w1.cell? q = some b ∧ w1.cell? r = some c ∧ w1.cell? s = some d ∧ Below w0.heap.size w0 w1) : Below w0.heap.size w1 (w1.alloc ob) :=
  (Below.refl _ _).alloc h.2.2.2.2.size _
theorem kcb {w0 w1 w2 : World} {p q r s : Addr} {a b c d : Value} (h : w1.cell? p = some a ∧ w1.cell? q = some b ∧ w1.cell? r = some c ∧ w1.cell? s = some d ∧ Below w0.heap.size w0 w1) (hb : Below w1.heap.size w1 w2) : Below w0.heap.size w1 w2 :=
  hb.mono h.2.2.2.2.size
theorem kcx {w0 w1 : World} {ob : Obj} (hb : Below w0.drew.heap.size w0.drew w1) : Below w0.heap.size w0 (w1.alloc ob) :=
  ((Below.refl _ _).drew.trans (hb : Below w0.heap.size w0.drew w1)).alloc hb.size _
theorem kcy {w0 w1 : World} {ob : Obj} {x y : Value} (hb : Below (w0.drew.alloc ob).heap.size (w0.drew.alloc ob) w1) : Below w0.heap.size w0 ((w1.setCell ⟨w0.heap.size, 0, none⟩ x).setCell ⟨w0.heap.size, 1, none⟩ y) :=
  ((((Below.refl w0.heap.size w0).drew.alloc (Nat.le_refl _) ob).trans (hb.mono (Nat.le_trans (Nat.le_succ _) (Nat.le_of_eq (Array.size_push ..).symm)))).setCell (Nat.le_refl _) _).setCell (Nat.le_refl _) _
theorem kcz {w0 w1 : World} {x y : Value} {t : TypeId} (hb : Below (w0.drew.alloc (.cells #[x, y] t)).heap.size (w0.drew.alloc (.cells #[x, y] t)) w1) :
    w1.cell? ⟨w0.heap.size, 0, none⟩ = some x ∧ w1.cell? ⟨w0.heap.size, 1, none⟩ = some y ∧ w1.frozen? ⟨w0.heap.size, 0, none⟩ = false ∧ w1.frozen? ⟨w0.heap.size, 1, none⟩ = false ∧ w0.heap.size < w1.heap.size := by
  have h : w1.heap[w0.heap.size]? = some (.cells #[x, y] t (0, 0)) := (hb.block w0.heap.size (Nat.lt_of_lt_of_eq (Nat.lt_succ_self _) (Array.size_push ..).symm)).trans (heap_alloc_new w0.drew _)
  obtain ⟨a, b, c, d⟩ := own2 h
  exact ⟨a, b, c, d, (Array.getElem?_eq_some_iff.1 h).1⟩
theorem kcd {w0 w1 : World} {p q r s : Addr} {a b c d : Value}
    (h : w1.cell? p = some a ∧ w1.cell? q = some b ∧ w1.cell? r = some c ∧ w1.cell? s = some d ∧ Below w0.heap.size w0 w1) :
    w1.drew.cell? p = some a ∧ w1.drew.cell? q = some b ∧ w1.drew.cell? r = some c ∧ w1.drew.cell? s = some d ∧ Below w0.heap.size w0 w1.drew :=
  ⟨h.1, h.2.1, h.2.2.1, h.2.2.2.1, h.2.2.2.2.drew⟩

set_option maxHeartbeats 2000000 in
theorem common_any (xs ys : List Iv) (v u : Value) (B : Nat) (w : World) (hE : HasEmpty w) (hx : SliceC w B v xs) (hy : SliceC w B u ys) (hB : B ≤ w.heap.size) (hm : xs.length ≤ 1000000) (hm' : ys.length ≤ 1000000) :
    Calls Tryd.prog 54 #[v, u] w fun e w' => ∃ r, e = .returned r ∧ OwnIv w' w.heap.size r (commonL xs ys) ∧ Below w.heap.size w w' := by
  have HX := Lib.hid hx
  have HY := Lib.hid hy
  have hE0 := hE.lt
  have HE := Lib.hid hE
  clear hE hx hy
  go_enter Tryd.func54, Tryd.ntmps54
  go_wp2_with fail
  go_loopw [0, 1, 5] (fun va vb vo wr => ∃ X Y O, SliceC wr B va X ∧ SliceC wr B vb Y ∧ OwnIv wr w.heap.size vo O ∧ Hid (O ++ commonL X Y = commonL xs ys) ∧ O.length + X.length + Y.length ≤ xs.length + ys.length ∧ Below w.heap.size w wr) (fun va vb _ _ => lenV va + lenV vb)
  case atStart => exact ⟨xs, ys, [], HX.out, HY.out, World.ownsRow_nil _ _ _ _, rfl, by simp, Below.refl _ _⟩
  case round =>
    obtain ⟨X, Y, O, hX, hY, hown, HC, hlen, hbw⟩ := hrel
    have HO := Lib.hid hown
    clear hown
    obtain ⟨A, c, rfl, hAc, hLX⟩ := hX
    obtain ⟨A', c', rfl, hAc', hLY⟩ := hY
    cases X with
    | nil =>
      rw [commonL_nil_left, List.append_nil] at HC
      clear hLX hLY
      rw [List.length_nil] at *
      go_wp2_with fail
      go_ret
      exact ⟨_, rfl, by rw [← HC.out]; exact HO.out, hbw⟩
    | cons x X =>
      cases Y with
      | nil =>
        rw [commonL_nil_right, List.append_nil] at HC
        clear hLX hLY
        rw [List.length_nil, List.length_cons] at *
        go_wp2_with fail
        go_ret
        exact ⟨_, rfl, by rw [← HC.out]; exact HO.out, hbw⟩
      | cons y Y =>
        rw [commonL_cons] at HC
        obtain ⟨g, o, rfl, hg, hcell⟩ := hLX (by simp)
        obtain ⟨g', o', rfl, hg', hcell'⟩ := hLY (by simp)
        obtain ⟨c1, c2⟩ := hcell 0 (by simp)
        obtain ⟨d1, d2⟩ := hcell' 0 (by simp)
        have HLX := Lib.hid hLX.rest
        have HLY := Lib.hid hLY.rest
        clear hcell hcell' hLX hLY
        obtain ⟨a1, a2⟩ := x
        obtain ⟨b1, b2⟩ := y
        simp only [List.getD_cons_zero, Nat.zero_mul, Nat.add_zero] at c1 c2 d1 d2
        rw [List.length_cons] at hAc hAc' ⊢
        rw [List.length_cons, List.length_cons] at hlen
        have hgw : g < wr.heap.size := by have := hbw.size; omega
        have hgw' : g' < wr.heap.size := by have := hbw.size; omega
        have hS : wr.cell? ⟨g, o, none⟩ = some (.int .i64 a1) ∧ wr.cell? ⟨g, o + 1, none⟩ = some (.int .i64 a2) ∧ wr.cell? ⟨g', o', none⟩ = some (.int .i64 b1) ∧ wr.cell? ⟨g', o' + 1, none⟩ = some (.int .i64 b2) ∧ Below wr.heap.size wr wr := ⟨c1, c2, d1, d2, Below.refl _ _⟩
        have HS1 := Lib.hid hS
        clear hS
        by_cases hov : max a1 b1 ≤ min a2 b2
        · have HOV := Lib.hid (fun W => overlap_some a1 a2 b1 b2 W hov)
          go_wp2_with fail
          go_region_held3 (fun w' => w'.cell? ⟨g, o, none⟩ = some (.int .i64 a1) ∧ w'.cell? ⟨g, o + 1, none⟩ = some (.int .i64 a2) ∧ w'.cell? ⟨g', o', none⟩ = some (.int .i64 b1) ∧ w'.cell? ⟨g', o' + 1, none⟩ = some (.int .i64 b2) ∧ Below wr.heap.size wr w')
            ((first | exact kcd HS1.out | exact kc (p := ⟨g, _, none⟩) (q := ⟨g, _, none⟩) (r := ⟨g', _, none⟩) (s := ⟨g', _, none⟩) hgw hgw hgw' hgw' (by assumption) (kca (by assumption)) | exact kc (p := ⟨g, _, none⟩) (q := ⟨g, _, none⟩) (r := ⟨g', _, none⟩) (s := ⟨g', _, none⟩) hgw hgw hgw' hgw' (by assumption) (kcb (by assumption) (by assumption)) | exact kc (p := ⟨g, _, none⟩) (q := ⟨g, _, none⟩) (r := ⟨g', _, none⟩) (s := ⟨g', _, none⟩) hgw hgw hgw' hgw' HS1.out (kcx hbb) | exact kc (p := ⟨g, _, none⟩) (q := ⟨g, _, none⟩) (r := ⟨g', _, none⟩) (s := ⟨g', _, none⟩) hgw hgw hgw' hgw' HS1.out (kcy hbb) | fail))
            (first | (go_at_call 48; refine (HOV.out _).mono ?_; rintro e w' ⟨rfl, hbb⟩; first | (have hz := kcz hbb; obtain ⟨z1, z2, z3, z4, z5⟩ := hz) | skip))
          all_goals rename_i hH
          · have hblk : (w'.alloc (.cells #[.int .i64 (max a1 b1), .int .i64 (min a2 b2)] 23)).heap[w'.heap.size]? = some (.cells #[.int .i64 (max a1 b1), .int .i64 (min a2 b2)] 23 (0, 0)) := heap_alloc_new w' _
            have hpg : wr.heap.size ≤ w'.heap.size := hbb.size
            clear hbb
            generalize w'.heap.size = p at hblk hpg ⊢
            generalize w'.alloc (.cells #[.int .i64 (max a1 b1), .int .i64 (min a2 b2)] 23) = W1 at hblk hH ⊢
            obtain ⟨_, _, _, _, hb1⟩ := hH
            have hbW : Below w.heap.size w W1 := hbw.trans (hb1.mono hbw.size)
            have hrW : Below w.heap.size wr W1 := hb1.mono hbw.size
            obtain ⟨e1, e2, _, _⟩ := own2 hblk
            have e3 := (Array.getElem?_eq_some_iff.1 hblk).1
            obtain ⟨m1, m2⟩ := HE.out.below hbW hE0
            have hE3 : 0 < W1.heap.size := by have := hbW.size; omega
            have hne := fun W => neqIv (max a1 b1) (min a2 b2) 1 0 W
            rw [show decide (max a1 b1 = 1 ∧ min a2 b2 = 0) = false by rw [decide_eq_false_iff_not]; rintro ⟨q1, q2⟩; omega, Bool.not_false] at hne
            have hOW := own_grow HO.out hb1
            have HOW := Lib.hid hOW
            clear hOW
            go_wp2_with (at_builtin; refine wpList_append_iv rfl (.tmp 25) (.tmp 27) rfl w.heap.size _ O rfl ?d1 (W1.heap.size + 1) (.slice (some ⟨W1.heap.size, 0, none⟩) 1 1) [((max a1 b1), (min a2 b2))] rfl ?d2 ?d3 ?d4 ?_)
            case d1 => exact HOW.out.alloc _
            case d2 => exact slice_one W1 (max a1 b1) (min a2 b2) _ _ rfl
            case d3 => simp; omega
            case d4 => have := hbW.size; simp; omega
            intro v' w3 hown' hgr
            have hr3 : Below w.heap.size wr w3 := (hrW.alloc hbW.size _).grown hgr (by have := hbW.size; simp; omega) (fun k hk => (HOW.out.lt k hk).1)
            have HO' := Lib.hid hown'
            clear hown' hgr
            have HR := Lib.hid hr3
            have f1 := (hr3.cell (p := ⟨g, o + 1, none⟩) (by show g < _; omega)).trans c2
            have f2 := (hr3.cell (p := ⟨g', o' + 1, none⟩) (by show g' < _; omega)).trans d2
            clear hr3 e1 e2 e3 m1 m2 hE3 hne
            have HC' : Hid (O ++ [(max a1 b1, min a2 b2)] ++ (if a2 < b2 then commonL X ((b1, b2) :: Y) else commonL ((a1, a2) :: X) Y) = commonL xs ys) := by
              have := HC.out
              unfold Hid
              rw [← this, List.append_assoc, show ovl (a1, a2) (b1, b2) = [(max a1 b1, min a2 b2)] from if_pos hov]
            have HF1 := Lib.hid c1
            have HF2 := Lib.hid d1
            have HG1 := Lib.hid c2
            have HG2 := Lib.hid d2
            clear c1 d1 c2 d2 HC
            have hgW : g < w3.heap.size := by have := HR.out.size; have := hbw.size; omega
            have hgW' : g' < w3.heap.size := by have := HR.out.size; have := hbw.size; omega
            by_cases hlt : a2 < b2
            · go_wp2_with fail
              go_quiet (fail)
              go_wp2_with fail
              go_roundw
              case rel =>
                refine ⟨X, (b1, b2) :: Y, (O ++ [(max a1 b1, min a2 b2)]), ⟨_, _, rfl, by omega, ?_⟩, ⟨_, _, rfl, hAc', ?_⟩, ownN HO'.out, ?_, by simp; omega, below_drewN (hbw.trans HR.out) _⟩
                · exact lies_if hAc (HLX.out.below HR.out hB)
                · exact lies_both HF2.out HG2.out hg' HLY.out HR.out hB
                · have := HC'.out
                  rw [if_pos hlt] at this
                  exact this
              case measure => simp [lenV]
            · have hlt' : decide (a2 < b2) = false := by simpa using hlt
              go_wp2_with fail
              go_quiet (fail)
              go_wp2_with fail
              go_roundw
              case rel =>
                refine ⟨(a1, a2) :: X, Y, (O ++ [(max a1 b1, min a2 b2)]), ⟨_, _, rfl, hAc, ?_⟩, ⟨_, _, rfl, by omega, ?_⟩, ownN HO'.out, ?_, by simp; omega, below_drewN (hbw.trans HR.out) _⟩
                · exact lies_both HF1.out HG1.out hg HLX.out HR.out hB
                · exact lies_if hAc' (HLY.out.below HR.out hB)
                · have := HC'.out
                  rw [if_neg (show ¬ a2 < b2 by omega)] at this
                  exact this
              case measure => simp [lenV]
          · have hblk := set2 ((hbb.block wr.heap.size (Nat.lt_of_lt_of_eq (Nat.lt_succ_self _) (Array.size_push ..).symm)).trans (heap_alloc_new wr.drew _)) (.int .i64 (max a1 b1)) (.int .i64 (min a2 b2))
            clear hbb z1 z2 z3 z4 z5
            obtain ⟨p, hp⟩ : ∃ p, p = wr.heap.size := ⟨_, rfl⟩
            generalize (w'.setCell ⟨wr.heap.size, 0, none⟩ (.int .i64 (max a1 b1))).setCell ⟨wr.heap.size, 1, none⟩ (.int .i64 (min a2 b2)) = W1 at hblk hH ⊢
            rw [← hp] at hblk ⊢
            have hpg : wr.heap.size ≤ p := Nat.le_of_eq hp.symm
            clear hp
            obtain ⟨_, _, _, _, hb1⟩ := hH
            have hbW : Below w.heap.size w W1 := hbw.trans (hb1.mono hbw.size)
            have hrW : Below w.heap.size wr W1 := hb1.mono hbw.size
            obtain ⟨e1, e2, _, _⟩ := own2 hblk
            have e3 := (Array.getElem?_eq_some_iff.1 hblk).1
            obtain ⟨m1, m2⟩ := HE.out.below hbW hE0
            have hE3 : 0 < W1.heap.size := by have := hbW.size; omega
            have hne := fun W => neqIv (max a1 b1) (min a2 b2) 1 0 W
            rw [show decide (max a1 b1 = 1 ∧ min a2 b2 = 0) = false by rw [decide_eq_false_iff_not]; rintro ⟨q1, q2⟩; omega, Bool.not_false] at hne
            have hOW := own_grow HO.out hb1
            have HOW := Lib.hid hOW
            clear hOW
            go_wp2_with (at_builtin; refine wpList_append_iv rfl (.tmp 25) (.tmp 27) rfl w.heap.size _ O rfl ?d1 (W1.heap.size + 1) (.slice (some ⟨W1.heap.size, 0, none⟩) 1 1) [((max a1 b1), (min a2 b2))] rfl ?d2 ?d3 ?d4 ?_)
            case d1 => exact HOW.out.alloc _
            case d2 => exact slice_one W1 (max a1 b1) (min a2 b2) _ _ rfl
            case d3 => simp; omega
            case d4 => have := hbW.size; simp; omega
            intro v' w3 hown' hgr
            have hr3 : Below w.heap.size wr w3 := (hrW.alloc hbW.size _).grown hgr (by have := hbW.size; simp; omega) (fun k hk => (HOW.out.lt k hk).1)
            have HO' := Lib.hid hown'
            clear hown' hgr
            have HR := Lib.hid hr3
            have f1 := (hr3.cell (p := ⟨g, o + 1, none⟩) (by show g < _; omega)).trans c2
            have f2 := (hr3.cell (p := ⟨g', o' + 1, none⟩) (by show g' < _; omega)).trans d2
            clear hr3 e1 e2 e3 m1 m2 hE3 hne
            have HC' : Hid (O ++ [(max a1 b1, min a2 b2)] ++ (if a2 < b2 then commonL X ((b1, b2) :: Y) else commonL ((a1, a2) :: X) Y) = commonL xs ys) := by
              have := HC.out
              unfold Hid
              rw [← this, List.append_assoc, show ovl (a1, a2) (b1, b2) = [(max a1 b1, min a2 b2)] from if_pos hov]
            have HF1 := Lib.hid c1
            have HF2 := Lib.hid d1
            have HG1 := Lib.hid c2
            have HG2 := Lib.hid d2
            clear c1 d1 c2 d2 HC
            have hgW : g < w3.heap.size := by have := HR.out.size; have := hbw.size; omega
            have hgW' : g' < w3.heap.size := by have := HR.out.size; have := hbw.size; omega
            by_cases hlt : a2 < b2
            · go_wp2_with fail
              go_quiet (fail)
              go_wp2_with fail
              go_roundw
              case rel =>
                refine ⟨X, (b1, b2) :: Y, (O ++ [(max a1 b1, min a2 b2)]), ⟨_, _, rfl, by omega, ?_⟩, ⟨_, _, rfl, hAc', ?_⟩, ownN HO'.out, ?_, by simp; omega, below_drewN (hbw.trans HR.out) _⟩
                · exact lies_if hAc (HLX.out.below HR.out hB)
                · exact lies_both HF2.out HG2.out hg' HLY.out HR.out hB
                · have := HC'.out
                  rw [if_pos hlt] at this
                  exact this
              case measure => simp [lenV]
            · have hlt' : decide (a2 < b2) = false := by simpa using hlt
              go_wp2_with fail
              go_quiet (fail)
              go_wp2_with fail
              go_roundw
              case rel =>
                refine ⟨(a1, a2) :: X, Y, (O ++ [(max a1 b1, min a2 b2)]), ⟨_, _, rfl, hAc, ?_⟩, ⟨_, _, rfl, by omega, ?_⟩, ownN HO'.out, ?_, by simp; omega, below_drewN (hbw.trans HR.out) _⟩
                · exact lies_both HF1.out HG1.out hg HLX.out HR.out hB
                · exact lies_if hAc' (HLY.out.below HR.out hB)
                · have := HC'.out
                  rw [if_neg (show ¬ a2 < b2 by omega)] at this
                  exact this
              case measure => simp [lenV]
        · have HOV := Lib.hid (fun W hh => overlap_none a1 a2 b1 b2 W hh (by omega))
          have hE1 := HE.out.below hbw hE0
          go_wp2_with fail
          go_region_held3 (fun w' => w'.cell? ⟨g, o, none⟩ = some (.int .i64 a1) ∧ w'.cell? ⟨g, o + 1, none⟩ = some (.int .i64 a2) ∧ w'.cell? ⟨g', o', none⟩ = some (.int .i64 b1) ∧ w'.cell? ⟨g', o' + 1, none⟩ = some (.int .i64 b2) ∧ Below wr.heap.size wr w')
            ((first | exact kcd HS1.out | exact kc (p := ⟨g, _, none⟩) (q := ⟨g, _, none⟩) (r := ⟨g', _, none⟩) (s := ⟨g', _, none⟩) hgw hgw hgw' hgw' (by assumption) (kca (by assumption)) | exact kc (p := ⟨g, _, none⟩) (q := ⟨g, _, none⟩) (r := ⟨g', _, none⟩) (s := ⟨g', _, none⟩) hgw hgw hgw' hgw' (by assumption) (kcb (by assumption) (by assumption)) | exact kc (p := ⟨g, _, none⟩) (q := ⟨g, _, none⟩) (r := ⟨g', _, none⟩) (s := ⟨g', _, none⟩) hgw hgw hgw' hgw' HS1.out (kcx hbb) | exact kc (p := ⟨g, _, none⟩) (q := ⟨g, _, none⟩) (r := ⟨g', _, none⟩) (s := ⟨g', _, none⟩) hgw hgw hgw' hgw' HS1.out (kcy hbb) | fail))
            (first | (go_at_call 48; refine (HOV.out _ (hE1.below (by first | exact (Below.refl wr.heap.size _).drew | exact (Below.refl wr.heap.size _).drew.alloc (Nat.le_refl _) _) (by have := hbw.size; omega))).mono ?_; rintro e w' ⟨rfl, hbb⟩; first | (have hz := kcz hbb; obtain ⟨z1, z2, z3, z4, z5⟩ := hz) | skip))
          all_goals rename_i hH
          · have hblk : (w'.alloc (.cells #[.int .i64 1, .int .i64 0] 23)).heap[w'.heap.size]? = some (.cells #[.int .i64 1, .int .i64 0] 23 (0, 0)) := heap_alloc_new w' _
            have hpg : wr.heap.size ≤ w'.heap.size := hbb.size
            clear hbb
            generalize w'.heap.size = p at hblk hpg ⊢
            generalize w'.alloc (.cells #[.int .i64 1, .int .i64 0] 23) = W1 at hblk hH ⊢
            obtain ⟨_, _, _, _, hb1⟩ := hH
            have hbW : Below w.heap.size w W1 := hbw.trans (hb1.mono hbw.size)
            have hrW : Below w.heap.size wr W1 := hb1.mono hbw.size
            obtain ⟨e1, e2, _, _⟩ := own2 hblk
            have e3 := (Array.getElem?_eq_some_iff.1 hblk).1
            obtain ⟨m1, m2⟩ := HE.out.below hbW hE0
            have hE3 : 0 < W1.heap.size := by have := hbW.size; omega
            have hne := fun W => neqIv 1 0 1 0 W
            rw [show decide ((1 : Int) = 1 ∧ (0 : Int) = 0) = true by decide, Bool.not_true] at hne
            have HOW := Lib.hid (own_grow HO.out hb1)
            have HR := Lib.hid hrW
            have f1 := (hrW.cell (p := ⟨g, o + 1, none⟩) (by show g < _; omega)).trans c2
            have f2 := (hrW.cell (p := ⟨g', o' + 1, none⟩) (by show g' < _; omega)).trans d2
            have HC' : Hid (O ++ (if a2 < b2 then commonL X ((b1, b2) :: Y) else commonL ((a1, a2) :: X) Y) = commonL xs ys) := by
              have := HC.out
              unfold Hid
              rw [← this, show ovl (a1, a2) (b1, b2) = [] from if_neg (by show ¬ max a1 b1 ≤ min a2 b2; omega), List.nil_append]
            have HF1 := Lib.hid c1
            have HF2 := Lib.hid d1
            have HG1 := Lib.hid c2
            have HG2 := Lib.hid d2
            clear c1 d1 c2 d2 HC
            have hgW : g < W1.heap.size := by have := HR.out.size; have := hbw.size; omega
            have hgW' : g' < W1.heap.size := by have := HR.out.size; have := hbw.size; omega
            by_cases hlt : a2 < b2
            · go_wp2_with fail
              go_quiet (fail)
              go_wp2_with fail
              go_roundw
              case rel =>
                refine ⟨X, (b1, b2) :: Y, O, ⟨_, _, rfl, by omega, ?_⟩, ⟨_, _, rfl, hAc', ?_⟩, ownN HOW.out, ?_, by simp; omega, below_drewN (hbw.trans HR.out) _⟩
                · exact lies_if hAc (HLX.out.below HR.out hB)
                · exact lies_both HF2.out HG2.out hg' HLY.out HR.out hB
                · have := HC'.out
                  rw [if_pos hlt] at this
                  exact this
              case measure => simp [lenV]
            · have hlt' : decide (a2 < b2) = false := by simpa using hlt
              go_wp2_with fail
              go_quiet (fail)
              go_wp2_with fail
              go_roundw
              case rel =>
                refine ⟨(a1, a2) :: X, Y, O, ⟨_, _, rfl, hAc, ?_⟩, ⟨_, _, rfl, by omega, ?_⟩, ownN HOW.out, ?_, by simp; omega, below_drewN (hbw.trans HR.out) _⟩
                · exact lies_both HF1.out HG1.out hg HLX.out HR.out hB
                · exact lies_if hAc' (HLY.out.below HR.out hB)
                · have := HC'.out
                  rw [if_neg (show ¬ a2 < b2 by omega)] at this
                  exact this
              case measure => simp [lenV]
          · have hblk := set2 ((hbb.block wr.heap.size (Nat.lt_of_lt_of_eq (Nat.lt_succ_self _) (Array.size_push ..).symm)).trans (heap_alloc_new wr.drew _)) (.int .i64 1) (.int .i64 0)
            clear hbb z1 z2 z3 z4 z5
            obtain ⟨p, hp⟩ : ∃ p, p = wr.heap.size := ⟨_, rfl⟩
            generalize (w'.setCell ⟨wr.heap.size, 0, none⟩ (.int .i64 1)).setCell ⟨wr.heap.size, 1, none⟩ (.int .i64 0) = W1 at hblk hH ⊢
            rw [← hp] at hblk ⊢
            have hpg : wr.heap.size ≤ p := Nat.le_of_eq hp.symm
            clear hp
            obtain ⟨_, _, _, _, hb1⟩ := hH
            have hbW : Below w.heap.size w W1 := hbw.trans (hb1.mono hbw.size)
            have hrW : Below w.heap.size wr W1 := hb1.mono hbw.size
            obtain ⟨e1, e2, _, _⟩ := own2 hblk
            have e3 := (Array.getElem?_eq_some_iff.1 hblk).1
            obtain ⟨m1, m2⟩ := HE.out.below hbW hE0
            have hE3 : 0 < W1.heap.size := by have := hbW.size; omega
            have hne := fun W => neqIv 1 0 1 0 W
            rw [show decide ((1 : Int) = 1 ∧ (0 : Int) = 0) = true by decide, Bool.not_true] at hne
            have HOW := Lib.hid (own_grow HO.out hb1)
            have HR := Lib.hid hrW
            have f1 := (hrW.cell (p := ⟨g, o + 1, none⟩) (by show g < _; omega)).trans c2
            have f2 := (hrW.cell (p := ⟨g', o' + 1, none⟩) (by show g' < _; omega)).trans d2
            have HC' : Hid (O ++ (if a2 < b2 then commonL X ((b1, b2) :: Y) else commonL ((a1, a2) :: X) Y) = commonL xs ys) := by
              have := HC.out
              unfold Hid
              rw [← this, show ovl (a1, a2) (b1, b2) = [] from if_neg (by show ¬ max a1 b1 ≤ min a2 b2; omega), List.nil_append]
            have HF1 := Lib.hid c1
            have HF2 := Lib.hid d1
            have HG1 := Lib.hid c2
            have HG2 := Lib.hid d2
            clear c1 d1 c2 d2 HC
            have hgW : g < W1.heap.size := by have := HR.out.size; have := hbw.size; omega
            have hgW' : g' < W1.heap.size := by have := HR.out.size; have := hbw.size; omega
            by_cases hlt : a2 < b2
            · go_wp2_with fail
              go_quiet (fail)
              go_wp2_with fail
              go_roundw
              case rel =>
                refine ⟨X, (b1, b2) :: Y, O, ⟨_, _, rfl, by omega, ?_⟩, ⟨_, _, rfl, hAc', ?_⟩, ownN HOW.out, ?_, by simp; omega, below_drewN (hbw.trans HR.out) _⟩
                · exact lies_if hAc (HLX.out.below HR.out hB)
                · exact lies_both HF2.out HG2.out hg' HLY.out HR.out hB
                · have := HC'.out
                  rw [if_pos hlt] at this
                  exact this
              case measure => simp [lenV]
            · have hlt' : decide (a2 < b2) = false := by simpa using hlt
              go_wp2_with fail
              go_quiet (fail)
              go_wp2_with fail
              go_roundw
              case rel =>
                refine ⟨(a1, a2) :: X, Y, O, ⟨_, _, rfl, hAc, ?_⟩, ⟨_, _, rfl, by omega, ?_⟩, ownN HOW.out, ?_, by simp; omega, below_drewN (hbw.trans HR.out) _⟩
                · exact lies_both HF1.out HG1.out hg HLX.out HR.out hB
                · exact lies_if hAc' (HLY.out.below HR.out hB)
                · have := HC'.out
                  rw [if_neg (show ¬ a2 < b2 by omega)] at this
                  exact this
              case measure => simp [lenV]
end Go.Proofs.YtbhkbhaepefdgaaDoor
