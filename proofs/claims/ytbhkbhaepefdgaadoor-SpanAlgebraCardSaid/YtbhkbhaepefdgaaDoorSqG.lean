/- form of the reference. -/
import Derived.Test.YtbhkbhaepefdgaaDoorSqE
namespace Go.Proofs.YtbhkbhaepefdgaaDoor
open Go.RowKit

theorem step_append_iv {w : World} {ops : Array Oper} {o : Oper} {a : Act} {K : Act → World → Prop} {Q : Exit → Act → World → Prop} {E : Prop} (hgd : o.guard = none) (s x : Operand)
    (ho : o.op = .call { callee := .builtin .append, args := #[s, x], argTypes := #[29, 29] })
    (base : Nat) (v : Value) (xs : List Iv) (hs : a.eval s = v) (hown : OwnIv w base v xs)
    (B : Nat) (u : Value) (ys : List Iv) (hx : a.eval x = u) (hu : SliceIv w B u ys) (hbig : xs.length + ys.length ≤ 1000000000000) (hbase : base ≤ w.heap.size)
    (h : ∀ v' w', OwnIv w' base v' (xs ++ ys) → w.grownBy w' v.ownBlock → K (a.put o.dst v') w') : if Region.wanted o (yielded ops a.tmps) = true then Oper.wp Tryd.prog o a w K Q else E := by
  have hw : Region.wanted o (yielded ops a.tmps) = true := by simp [Region.wanted, hgd]
  rw [if_pos hw]
  obtain ⟨i0, hi0, hz0, hz1, hz2⟩ := info_parts info_iv
  obtain ⟨A, c, rfl, hc, hL⟩ := hu
  cases A with
  | none =>
    obtain rfl := hc rfl
    have hy : ys = [] := by
      cases ys with
      | nil => rfl
      | cons y ys =>
        obtain ⟨_, _, hA, _⟩ := hL (by simp)
        cases hA
    subst hy
    have hown' : OwnIv w base v (xs ++ []) := by rw [List.append_nil]; exact hown
    have hrun := run_append_owned_none (P := Tryd.prog) (w := w) base 29 o.type 23 i0 2 Tryd.underlying29 hi0 v xs.length (cellsIv xs) hown
    unfold Oper.wp
    simp [execOp, ho, resolve, invoke, builtin, hs, hx, hrun, Result.andThen]
    exact h v w hown' (World.grownBy.refl w _)
  | some ad =>
    obtain ⟨v', w', hr, h2, h3, _, _⟩ := run_append_own_at (P := Tryd.prog) w base 29 o.type 23 i0 _ 2 16 Tryd.underlying29 hi0 hz0 hz1 hz2 rfl (by decide) v xs.length (cellsIv xs) hown ad ys.length c (cellsIv ys) (cellsIv_length ys) hL.cells (cellsIv_one ys)
      (by unfold maxLen; omega) (by omega) hbase
    unfold Oper.wp execOp
    simp only [ho, resolve, invoke, builtin, Sem.run_bind, Sem.run_pure, Result.andThen_ok, List.map_toArray, List.map_cons, List.map_nil, hs, hx, hr]
    refine h v' w' ?_ h3
    rw [← cellsIv_append] at h2
    unfold OwnIv
    rw [List.length_append]
    exact h2

abbrev At2 (Z : Nat) (w0 w1 : World) (g o k : Nat) (a b : Int) : Prop := w1.cell? ⟨g, o + k, none⟩ = some (.int .i64 a) ∧ w1.cell? ⟨g, o + (k + 1), none⟩ = some (.int .i64 b) ∧ Below Z w0 w1
theorem At2.next {Z : Nat} {w0 w1 w2 : World} {g o k : Nat} {a b : Int} (hg : g < Z) (h : At2 Z w0 w1 g o k a b) (hb : Below Z w1 w2) : At2 Z w0 w2 g o k a b :=
  ⟨(hb.cell (p := ⟨g, o + k, none⟩) hg).trans h.1, (hb.cell (p := ⟨g, o + (k + 1), none⟩) hg).trans h.2.1, h.2.2.trans hb⟩
theorem fkd {Z : Nat} {w5 : World} {nq g o k : Nat} {a b : Int} (h : At2 Z w5 w5 g o k a b) : At2 Z w5 (w5.drewN nq).drew g o k a b := ⟨h.1, h.2.1, (below_drewN h.2.2 _).drew⟩
theorem fka {Z : Nat} {w5 : World} {nq g o k : Nat} {a b : Int} {ob : Obj} (hg : g < Z) (hz : Z ≤ w5.heap.size) (h : At2 Z w5 w5 g o k a b) : At2 Z w5 ((w5.drewN nq).alloc ob) g o k a b :=
  (h.next hg ((below_drewN (Below.refl _ _) nq).alloc hz ob))
theorem fkg {Z : Nat} {w5 w6 : World} {nq g o k : Nat} {a b : Int} {ob : Obj} {v : Value} {xs : List Iv} (hg : g < Z) (hz : Z ≤ w5.heap.size) (h : At2 Z w5 w5 g o k a b) (hown : OwnIv w5 Z v xs)
    (hgr : ((w5.drewN nq).alloc ob).grownBy w6 v.ownBlock) : At2 Z w5 w6 g o k a b := by
  have hb := ((below_drewN (Below.refl Z w5) nq).alloc hz ob)
  exact h.next hg (hb.grown hgr (Nat.le_trans hz (Nat.le_trans (by exact Nat.le_of_lt (Nat.lt_of_lt_of_eq (Nat.lt_succ_self _) (Array.size_push ..).symm)) (Nat.le_refl _))) (fun k hk => (World.ownsRow.lt hown k hk).1))
theorem fown {w5 : World} {nq base : Nat} {ob : Obj} {v : Value} {xs : List Iv} (h : OwnIv w5 base v xs) : OwnIv ((w5.drewN nq).alloc ob) base v xs := (h : OwnIv (w5.drewN nq) base v xs).alloc ob
theorem fone (w5 : World) (p q : Int) {nq : Nat} {t : TypeId} : SliceIv ((w5.drewN nq).alloc (.cells #[.int .i64 p, .int .i64 q] t)) (w5.heap.size + 1) (.slice (some ⟨w5.heap.size, 0, none⟩) 1 1) [(p, q)] := slice_one (w5.drewN nq) p q t _ rfl
theorem fsz {w5 : World} {nq base : Nat} {ob : Obj} (h : base ≤ w5.heap.size) : base ≤ ((w5.drewN nq).alloc ob).heap.size := Nat.le_trans h (Nat.le_of_lt (Nat.lt_of_lt_of_eq (Nat.lt_succ_self _) (Array.size_push ..).symm))
theorem gkd {w5 : World} {nq Z : Nat} {p : Addr} {x : Value} (h : w5.cell? p = some x) : (w5.drewN nq).drew.cell? p = some x ∧ Below Z w5 (w5.drewN nq).drew := ⟨h, (below_drewN (Below.refl _ _) _).drew⟩
theorem gks {w5 : World} {nq Z g o og i : Nat} {x y : Value} (hg : g < Z) (ho : Z ≤ og) (h : w5.cell? ⟨g, o, none⟩ = some x) : ((w5.setCell ⟨og, i, none⟩ y).drewN nq).drew.cell? ⟨g, o, none⟩ = some x ∧ Below Z w5 ((w5.setCell ⟨og, i, none⟩ y).drewN nq).drew := by
  have hb : Below Z w5 (w5.setCell ⟨og, i, none⟩ y) := (Below.refl _ _).setCell ho _
  exact ⟨(hb.cell (p := ⟨g, o, none⟩) hg).trans h, (below_drewN hb _).drew⟩

theorem below_drewN_set {Z : Nat} {w w5 : World} {nq og i : Nat} {y : Value} (h : Below Z w w5) (ho : Z ≤ og) : Below Z w ((w5.drewN nq).setCell ⟨og, i, none⟩ y) := (below_drewN h nq).setCell ho _
theorem own_base {w : World} {base base' : Nat} {v : Value} {xs : List Iv} (h : OwnIv w base v xs) (hb : base' ≤ base) : OwnIv w base' v xs := by
  obtain ⟨o1, o2⟩ := h
  refine ⟨o1, o2.imp id ?_⟩
  rintro ⟨g, cap, cur, e1, e2, e3⟩
  exact ⟨g, cap, cur, e1, by omega, e3⟩

set_option maxRecDepth 20000 in
set_option maxHeartbeats 8000000 in
theorem form_any (xs ys : List Iv) (kind : Int) (v u : Value) (B : Nat) (w : World) (hx : SliceIv w B v xs) (hy : SliceIv w B u ys) (hB : B ≤ w.heap.size) (h1 : xs.length ≤ 10000) (h2 : ys.length ≤ 10000) (hO : OkL xs) (hO' : OkL ys) (hk : kind = 1 ∨ kind = 2 ∨ kind = 3) :
    Calls Tryd.prog 58 #[v, u, .int .i64 kind] w fun e w' => ∃ r, e = .returned r ∧ OwnIv w' w.heap.size r (formL kind xs ys) ∧ Below w.heap.size w w' := by
  have HX := Lib.hid hx
  have HY := Lib.hid hy
  have HO := Lib.hid hO
  have HO' := Lib.hid hO'
  clear hO hO'
  obtain ⟨A, c, rfl, _, _⟩ := hx
  obtain ⟨A', c', rfl, _, _⟩ := hy
  go_enter Tryd.func58, Tryd.ntmps58
  go_wp2_with (at_builtin; refine wpList_append_iv rfl (.tmp 13) (.tmp 14) rfl w.heap.size _ [] rfl ?c1 B _ xs rfl ?c2 ?c3 ?c4 ?_)
  case c1 => exact World.ownsRow_made w #[] 0 (Nat.le_refl _) (by unfold maxLen; omega) rfl
  case c2 => exact HX.out.below ((Below.refl _ _).alloc (Nat.le_refl _) _) hB
  case c3 => simp; omega
  case c4 => simp
  intro v1 w1 hown1 hg1
  have hb1 : Below w.heap.size w w1 := ((Below.refl _ _).alloc (Nat.le_refl _) _).grown hg1 (by simp) (fun k hk => by simp [Value.ownBlock] at hk; omega)
  have HW := Lib.hid hown1
  clear hown1 hg1
  go_wp2_with (at_builtin; refine wpList_append_iv rfl (.tmp 15) (.tmp 16) rfl w.heap.size _ xs rfl ?d1 B _ ys rfl ?d2 ?d3 ?d4 ?_)
  case d1 => exact HW.out
  case d2 => exact HY.out.below hb1 hB
  case d3 => omega
  case d4 => exact hb1.size
  intro v2 w2 hown2 hg2
  have hb2 : Below w.heap.size w w2 := hb1.grown hg2 hb1.size (fun k hk => (HW.out.lt k hk).1)
  have hs2 := OwnIv.slice hown2
  have HS2 := Lib.hid hs2
  have HOA : Hid (OkL (xs ++ ys)) := fun x hx => (List.mem_append.1 hx).elim (HO.out x) (HO'.out x)
  have hlen : (xs ++ ys).length ≤ 20000 := by rw [List.length_append]; omega
  clear hown2 hg2 hs2
  go_wp2_with fail
  refine (ends_any (xs ++ ys) _ _ _ HS2.out (Nat.le_refl _) (by omega) HOA.out).mono ?_
  rintro e w3 ⟨v3, rfl, hs3, hb3⟩
  have hb3' : Below w.heap.size w w3 := hb2.trans (hb3.mono hb2.size)
  have HZ := Lib.hid hs3
  obtain ⟨Az, cz, rfl, _, hAz, hLz⟩ := hs3
  have HLZ := Lib.hid hLz
  clear hLz hAz
  go_wp2_with fail
  have hzl : (endsL (xs ++ ys)).length ≤ 40000 := by
    have := (endsL_good _ (xs ++ ys) rfl).2.2
    omega
  have HIN : Hid (Incr (endsL (xs ++ ys))) := (endsL_good _ (xs ++ ys) rfl).1
  have HBD : Hid (∀ z ∈ endsL (xs ++ ys), -1000000000000 ≤ z ∧ z ≤ 1000000000001) := fun z hz => by
    obtain ⟨x, hx, h⟩ := ((endsL_good _ (xs ++ ys) rfl).2.1 z).1 hz
    have := HOA.out x hx
    rcases h with h | h <;> omega
  have HGD : Hid (∀ k, k < (endsL (xs ++ ys)).length → NF (formSt kind xs ys (endsL (xs ++ ys)) k) ∧ (∀ x ∈ formSt kind xs ys (endsL (xs ++ ys)) k, x.2 < (endsL (xs ++ ys)).getD k 0) ∧ (∀ n, memL n (formSt kind xs ys (endsL (xs ++ ys)) k) → (endsL (xs ++ ys)).getD 0 0 ≤ n) ∧ (formSt kind xs ys (endsL (xs ++ ys)) k).length ≤ k) := fun k hk => by
    have e2 := (endsL_good _ (xs ++ ys) rfl).2.1
    obtain ⟨g1, g2, g3, g4⟩ := formSt_good (kind := kind) HIN.out (fun x (hx : x ∈ xs) => ⟨(e2 _).2 ⟨x, by simp [hx], .inl rfl⟩, (e2 _).2 ⟨x, by simp [hx], .inr rfl⟩⟩) (fun x (hx : x ∈ ys) => ⟨(e2 _).2 ⟨x, by simp [hx], .inl rfl⟩, (e2 _).2 ⟨x, by simp [hx], .inr rfl⟩⟩) k hk
    exact ⟨g1, g2, fun n hn => ((g3 n).1 hn).1, g4⟩
  have HRES : Hid (formL kind xs ys = formSt kind xs ys (endsL (xs ++ ys)) ((endsL (xs ++ ys)).length - 1)) := rfl
  generalize endsL (xs ++ ys) = at' at *
  go_loopw [8, 9] (fun o i wr => ∃ k : Nat, k ≤ at'.length - 1 ∧ i = .int .i64 k ∧ OwnIv wr w3.heap.size o (formSt kind xs ys at' k) ∧ Below w3.heap.size w3 wr) (fun _ i _ => at'.length - (intOf i).toNat)
  case atStart => exact ⟨0, Nat.zero_le _, rfl, World.ownsRow_made w3 #[] 0 (Nat.le_refl _) (by unfold maxLen; omega) rfl, (Below.refl _ _).alloc (Nat.le_refl _) _⟩
  case round =>
    obtain ⟨k, hkl, rfl, hown, hbw⟩ := hrel
    by_cases hlt : k + 1 < at'.length
    · obtain ⟨gz, oz, rfl, hgz, hcell⟩ := (HLZ.out.below hbw (Nat.le_refl _)) (by omega)
      have c1 := hcell k (by omega)
      have c2 := hcell (k + 1) hlt
      clear hcell
      have hpq := HIN.out.lt (Nat.lt_succ_self k) hlt
      have hp := (HBD.out _ (getD_mem (show k < at'.length by omega))).1
      have hq := (HBD.out _ (getD_mem hlt)).2
      have h0 := (HBD.out _ (getD_mem (show 0 < at'.length by omega))).1
      obtain ⟨g1, g2, g3, g4⟩ := HGD.out k (by omega)
      have HF : Hid (formSt kind xs ys at' (k + 1) = segIv (formSt kind xs ys at' k) (at'.getD k 0) (at'.getD (k + 1) 0) (keepB kind (memB (at'.getD k 0) xs) (memB (at'.getD k 0) ys))) := rfl
      generalize at'.getD k 0 = p at c1 hpq hp g2 HF
      generalize at'.getD (k + 1) 0 = q at c2 hpq hq HF
      generalize at'.getD 0 0 = z0 at h0 g3
      have hI1 := fun (W : World) (h : Below w3.heap.size w3 W) => in_any xs p _ B W (HX.out.below (hb3'.trans (h.mono hb3'.size)) hB) (by have := hb3'.size; have := h.size; omega) (by omega)
      have hI2 := fun (W : World) (h : Below w3.heap.size w3 W) => in_any ys p _ B W (HY.out.below (hb3'.trans (h.mono hb3'.size)) hB) (by have := hb3'.size; have := h.size; omega) (by omega)
      have hgzr : gz < wr.heap.size := by have := hbw.size; omega
      have i0 : (0 : Int) ≤ (k : Int) := by omega
      have i1 : (k : Int) < (at'.length : Int) := by omega
      have i2 : (k : Int) + 1 < (at'.length : Int) := by omega
      have i3 : (0 : Int) ≤ (k : Int) + 1 := by omega
      generalize formSt kind xs ys at' k = out at hown g1 g2 g3 g4 HF
      have HG := Lib.hid hown
      have HB1 := Lib.hid g1
      have HB2 := Lib.hid g2
      have HB3 := Lib.hid g3
      clear hown g1 g2 g3
      cases hm1 : memB p xs with
      | true =>
        rw [hm1] at hI1 HF
        have HI1 := Lib.hid hI1
        clear hI1 hm1
        cases hm2 : memB p ys with
        | true =>
          rw [hm2] at hI2 HF
          have HI2 := Lib.hid hI2
          clear hI2 hm2
          rcases hk with rfl | rfl | rfl
          · have HF' : Hid (formSt 1 xs ys at' (k + 1) = segIv out p q true) := HF.out
            clear HF
            go_wp2_with fail
            refine (HI1.out _ hbw).mono ?_
            rintro e w4 ⟨rfl, hb4⟩
            have hbw4 : Below w3.heap.size w3 w4 := hbw.trans (hb4.mono hbw.size)
            have k1 := (hb4.cell (p := ⟨gz, oz + k, none⟩) (by show gz < _; omega)).trans c1
            have hz4 : gz < w4.heap.size := by have := hb4.size; omega
            go_wp2_with fail
            refine (HI2.out _ hbw4).mono ?_
            rintro e w5 ⟨rfl, hb5⟩
            have hbw5 : Below w3.heap.size w3 w5 := hbw4.trans (hb5.mono hbw4.size)
            have HG5 := Lib.hid (own_grow HG.out (hb4.trans (hb5.mono hb4.size)))
            have k1' := (hb5.cell (p := ⟨gz, oz + k, none⟩) (by show gz < _; omega)).trans k1
            have k2' := (hb5.cell (p := ⟨gz, oz + (k + 1), none⟩) (by show gz < _; omega)).trans ((hb4.cell (p := ⟨gz, oz + (k + 1), none⟩) (by show gz < _; omega)).trans c2)
            have hz5 : gz < w5.heap.size := by have := hb5.size; omega
            clear k1 hz4 c1 c2 hb4 hb5 HG
            have HS5 : Hid (w5.cell? ⟨gz, oz + k, none⟩ = some (.int .i64 p) ∧ w5.cell? ⟨gz, oz + (k + 1), none⟩ = some (.int .i64 q) ∧ Below w3.heap.size w5 w5) := ⟨k1', k2', Below.refl _ _⟩
            have i4 : IntKind.i64.wrap (q - 1) = q - 1 := IntWalk.i64_in _ (by omega)
            rcases list_snoc out with rfl | ⟨ou, l, rfl⟩
            · obtain ⟨A3, c3, rfl, _⟩ := OwnIv.slice HG5.out
              rw [List.length_nil] at *
              go_wp2
              go_quiet (fail)
              go_wp2_with fail
              have i5 : IntKind.i64.wrap ((k : Int) + 1) = (k : Int) + 1 := IntWalk.i64_in _ (by omega)
              go_region_held3 (fun w' => w'.cell? ⟨gz, oz + k, none⟩ = some (.int .i64 p) ∧ w'.cell? ⟨gz, oz + (k + 1), none⟩ = some (.int .i64 q) ∧ Below w3.heap.size w5 w')
                ((first | exact fkd HS5.out | exact fka hgz hbw5.size HS5.out | exact fkg hgz hbw5.size HS5.out HG5.out hg6 | fail))
                (first | (refine step_append_iv (by rfl) (.tmp 101) (.tmp 113) (by rfl) w3.heap.size _ [] (by rfl) (fown HG5.out) _ _ [(p, q - 1)] (by rfl) (fone w5 p (q - 1)) (by simp) (fsz hbw5.size) ?_; intro v' w6 hown' hg6))
              rename_i hH
              have HO' := Lib.hid hown'
              have hbw6 := hbw5.trans hH.2.2
              clear hown' hg6 hH i4 i5
              go_wp2
              go_roundw
              case rel => exact ⟨k + 1, by omega, by go_num, by rw [HF'.out, segIv_nil]; exact HO'.out, hbw6⟩
              case measure => simp [intOf]; omega
            · obtain ⟨og, ocap, rfl, hbg, hglt, hc3, hf3⟩ := own_last HG5.out
              obtain ⟨l1, l2⟩ := l
              have hl12 : l1 ≤ l2 := HB1.out.1 (l1, l2) (by simp)
              have hl2 : l2 < p := HB2.out (l1, l2) (by simp)
              have hl3 : z0 ≤ l2 := HB3.out l2 ⟨(l1, l2), by simp, hl12, Int.le_refl _⟩
              have hol : ou.length + 1 ≤ k := by simpa using g4
              obtain ⟨n, hn⟩ : ∃ n, n = ou.length := ⟨_, rfl⟩
              rw [← hn] at hc3 hf3 hol ⊢
              have HNN := Lib.hid hn
              have HG5' : Hid (OwnIv w5 w3.heap.size (.slice (some ⟨og, 0, none⟩) (n + 1) ocap) (ou ++ [(l1, l2)])) := by rw [hn]; exact HG5.out
              clear hn g4
              simp only at hc3
              have j0 : (0 : Int) ≤ (n : Int) := by omega
              have j1 : (n : Int) < (n : Int) + 1 := by omega
              have j2 : IntKind.i64.wrap (l2 + 1) = l2 + 1 := IntWalk.i64_in _ (by omega)
              by_cases hj : l2 + 1 = p
              · go_wp2
                go_quiet (fail)
                clear j2
                go_wp2
                go_roundw
                case rel =>
                  refine ⟨k + 1, by omega, by go_num, ?_, below_drewN_set (hbw5) hbg⟩
                  rw [HF'.out, segIv_snoc, if_pos hj, HNN.out]
                  exact own_set (HG5.out : OwnIv (w5.drewN _) w3.heap.size (.slice (some ⟨og, 0, none⟩) (ou.length + 1) ocap) (ou ++ [(l1, l2)])) (q - 1)
                case measure => simp [intOf]; omega
              · have hj' : (l2 + 1 == p) = false := by simpa using hj
                go_wp2
                go_quiet (fail)
                clear j2
                go_wp2_with fail
                have i5 : IntKind.i64.wrap ((k : Int) + 1) = (k : Int) + 1 := IntWalk.i64_in _ (by omega)
                go_region_held3 (fun w' => w'.cell? ⟨gz, oz + k, none⟩ = some (.int .i64 p) ∧ w'.cell? ⟨gz, oz + (k + 1), none⟩ = some (.int .i64 q) ∧ Below w3.heap.size w5 w')
                  ((first | exact fkd HS5.out | exact fka hgz hbw5.size HS5.out | exact fkg hgz hbw5.size HS5.out HG5.out hg6 | fail))
                  (first | (refine step_append_iv (by rfl) (.tmp 101) (.tmp 113) (by rfl) w3.heap.size _ (ou ++ [(l1, l2)]) (by rfl) (fown HG5'.out) _ _ [(p, q - 1)] (by rfl) (fone w5 p (q - 1)) (by rw [List.length_append, ← HNN.out]; simp; omega) (fsz hbw5.size) ?_; intro v' w6 hown' hg6))
                rename_i hH
                have HO' := Lib.hid hown'
                have hbw6 := hbw5.trans hH.2.2
                clear hown' hg6 hH i4 i5
                go_wp2
                go_roundw
                case rel => exact ⟨k + 1, by omega, by go_num, by rw [HF'.out, segIv_snoc, if_neg hj]; exact HO'.out, hbw6⟩
                case measure => simp [intOf]; omega
          · have HF' : Hid (formSt 2 xs ys at' (k + 1) = segIv out p q false) := HF.out
            clear HF
            go_wp2_with fail
            refine (HI1.out _ hbw).mono ?_
            rintro e w4 ⟨rfl, hb4⟩
            have hbw4 : Below w3.heap.size w3 w4 := hbw.trans (hb4.mono hbw.size)
            have k1 := (hb4.cell (p := ⟨gz, oz + k, none⟩) (by show gz < _; omega)).trans c1
            have hz4 : gz < w4.heap.size := by have := hb4.size; omega
            go_wp2_with fail
            refine (HI2.out _ hbw4).mono ?_
            rintro e w5 ⟨rfl, hb5⟩
            have hbw5 : Below w3.heap.size w3 w5 := hbw4.trans (hb5.mono hbw4.size)
            have HG5 := Lib.hid (own_grow HG.out (hb4.trans (hb5.mono hb4.size)))
            have k1' := (hb5.cell (p := ⟨gz, oz + k, none⟩) (by show gz < _; omega)).trans k1
            have k2' := (hb5.cell (p := ⟨gz, oz + (k + 1), none⟩) (by show gz < _; omega)).trans ((hb4.cell (p := ⟨gz, oz + (k + 1), none⟩) (by show gz < _; omega)).trans c2)
            have hz5 : gz < w5.heap.size := by have := hb5.size; omega
            clear k1 hz4 c1 c2 hb4 hb5 HG
            go_wp2
            go_roundw
            case rel => exact ⟨k + 1, by omega, by go_num, by rw [HF'.out]; exact HG5.out, hbw5⟩
            case measure => simp [intOf]; omega
          · have HF' : Hid (formSt 3 xs ys at' (k + 1) = segIv out p q true) := HF.out
            clear HF
            go_wp2_with fail
            refine (HI1.out _ hbw).mono ?_
            rintro e w4 ⟨rfl, hb4⟩
            have hbw4 : Below w3.heap.size w3 w4 := hbw.trans (hb4.mono hbw.size)
            have k1 := (hb4.cell (p := ⟨gz, oz + k, none⟩) (by show gz < _; omega)).trans c1
            have hz4 : gz < w4.heap.size := by have := hb4.size; omega
            go_wp2_with fail
            refine (HI2.out _ hbw4).mono ?_
            rintro e w5 ⟨rfl, hb5⟩
            have hbw5 : Below w3.heap.size w3 w5 := hbw4.trans (hb5.mono hbw4.size)
            have HG5 := Lib.hid (own_grow HG.out (hb4.trans (hb5.mono hb4.size)))
            have k1' := (hb5.cell (p := ⟨gz, oz + k, none⟩) (by show gz < _; omega)).trans k1
            have k2' := (hb5.cell (p := ⟨gz, oz + (k + 1), none⟩) (by show gz < _; omega)).trans ((hb4.cell (p := ⟨gz, oz + (k + 1), none⟩) (by show gz < _; omega)).trans c2)
            have hz5 : gz < w5.heap.size := by have := hb5.size; omega
            clear k1 hz4 c1 c2 hb4 hb5 HG
            have HS5 : Hid (w5.cell? ⟨gz, oz + k, none⟩ = some (.int .i64 p) ∧ w5.cell? ⟨gz, oz + (k + 1), none⟩ = some (.int .i64 q) ∧ Below w3.heap.size w5 w5) := ⟨k1', k2', Below.refl _ _⟩
            have i4 : IntKind.i64.wrap (q - 1) = q - 1 := IntWalk.i64_in _ (by omega)
            rcases list_snoc out with rfl | ⟨ou, l, rfl⟩
            · obtain ⟨A3, c3, rfl, _⟩ := OwnIv.slice HG5.out
              rw [List.length_nil] at *
              go_wp2
              go_quiet (fail)
              go_wp2_with fail
              have i5 : IntKind.i64.wrap ((k : Int) + 1) = (k : Int) + 1 := IntWalk.i64_in _ (by omega)
              go_region_held3 (fun w' => w'.cell? ⟨gz, oz + k, none⟩ = some (.int .i64 p) ∧ w'.cell? ⟨gz, oz + (k + 1), none⟩ = some (.int .i64 q) ∧ Below w3.heap.size w5 w')
                ((first | exact fkd HS5.out | exact fka hgz hbw5.size HS5.out | exact fkg hgz hbw5.size HS5.out HG5.out hg6 | fail))
                (first | (refine step_append_iv (by rfl) (.tmp 101) (.tmp 113) (by rfl) w3.heap.size _ [] (by rfl) (fown HG5.out) _ _ [(p, q - 1)] (by rfl) (fone w5 p (q - 1)) (by simp) (fsz hbw5.size) ?_; intro v' w6 hown' hg6))
              rename_i hH
              have HO' := Lib.hid hown'
              have hbw6 := hbw5.trans hH.2.2
              clear hown' hg6 hH i4 i5
              go_wp2
              go_roundw
              case rel => exact ⟨k + 1, by omega, by go_num, by rw [HF'.out, segIv_nil]; exact HO'.out, hbw6⟩
              case measure => simp [intOf]; omega
            · obtain ⟨og, ocap, rfl, hbg, hglt, hc3, hf3⟩ := own_last HG5.out
              obtain ⟨l1, l2⟩ := l
              have hl12 : l1 ≤ l2 := HB1.out.1 (l1, l2) (by simp)
              have hl2 : l2 < p := HB2.out (l1, l2) (by simp)
              have hl3 : z0 ≤ l2 := HB3.out l2 ⟨(l1, l2), by simp, hl12, Int.le_refl _⟩
              have hol : ou.length + 1 ≤ k := by simpa using g4
              obtain ⟨n, hn⟩ : ∃ n, n = ou.length := ⟨_, rfl⟩
              rw [← hn] at hc3 hf3 hol ⊢
              have HNN := Lib.hid hn
              have HG5' : Hid (OwnIv w5 w3.heap.size (.slice (some ⟨og, 0, none⟩) (n + 1) ocap) (ou ++ [(l1, l2)])) := by rw [hn]; exact HG5.out
              clear hn g4
              simp only at hc3
              have j0 : (0 : Int) ≤ (n : Int) := by omega
              have j1 : (n : Int) < (n : Int) + 1 := by omega
              have j2 : IntKind.i64.wrap (l2 + 1) = l2 + 1 := IntWalk.i64_in _ (by omega)
              by_cases hj : l2 + 1 = p
              · go_wp2
                go_quiet (fail)
                clear j2
                go_wp2
                go_roundw
                case rel =>
                  refine ⟨k + 1, by omega, by go_num, ?_, below_drewN_set (hbw5) hbg⟩
                  rw [HF'.out, segIv_snoc, if_pos hj, HNN.out]
                  exact own_set (HG5.out : OwnIv (w5.drewN _) w3.heap.size (.slice (some ⟨og, 0, none⟩) (ou.length + 1) ocap) (ou ++ [(l1, l2)])) (q - 1)
                case measure => simp [intOf]; omega
              · have hj' : (l2 + 1 == p) = false := by simpa using hj
                go_wp2
                go_quiet (fail)
                clear j2
                go_wp2_with fail
                have i5 : IntKind.i64.wrap ((k : Int) + 1) = (k : Int) + 1 := IntWalk.i64_in _ (by omega)
                go_region_held3 (fun w' => w'.cell? ⟨gz, oz + k, none⟩ = some (.int .i64 p) ∧ w'.cell? ⟨gz, oz + (k + 1), none⟩ = some (.int .i64 q) ∧ Below w3.heap.size w5 w')
                  ((first | exact fkd HS5.out | exact fka hgz hbw5.size HS5.out | exact fkg hgz hbw5.size HS5.out HG5.out hg6 | fail))
                  (first | (refine step_append_iv (by rfl) (.tmp 101) (.tmp 113) (by rfl) w3.heap.size _ (ou ++ [(l1, l2)]) (by rfl) (fown HG5'.out) _ _ [(p, q - 1)] (by rfl) (fone w5 p (q - 1)) (by rw [List.length_append, ← HNN.out]; simp; omega) (fsz hbw5.size) ?_; intro v' w6 hown' hg6))
                rename_i hH
                have HO' := Lib.hid hown'
                have hbw6 := hbw5.trans hH.2.2
                clear hown' hg6 hH i4 i5
                go_wp2
                go_roundw
                case rel => exact ⟨k + 1, by omega, by go_num, by rw [HF'.out, segIv_snoc, if_neg hj]; exact HO'.out, hbw6⟩
                case measure => simp [intOf]; omega
        | false =>
          rw [hm2] at hI2 HF
          have HI2 := Lib.hid hI2
          clear hI2 hm2
          rcases hk with rfl | rfl | rfl
          · have HF' : Hid (formSt 1 xs ys at' (k + 1) = segIv out p q true) := HF.out
            clear HF
            go_wp2_with fail
            refine (HI1.out _ hbw).mono ?_
            rintro e w4 ⟨rfl, hb4⟩
            have hbw4 : Below w3.heap.size w3 w4 := hbw.trans (hb4.mono hbw.size)
            have k1 := (hb4.cell (p := ⟨gz, oz + k, none⟩) (by show gz < _; omega)).trans c1
            have hz4 : gz < w4.heap.size := by have := hb4.size; omega
            go_wp2_with fail
            refine (HI2.out _ hbw4).mono ?_
            rintro e w5 ⟨rfl, hb5⟩
            have hbw5 : Below w3.heap.size w3 w5 := hbw4.trans (hb5.mono hbw4.size)
            have HG5 := Lib.hid (own_grow HG.out (hb4.trans (hb5.mono hb4.size)))
            have k1' := (hb5.cell (p := ⟨gz, oz + k, none⟩) (by show gz < _; omega)).trans k1
            have k2' := (hb5.cell (p := ⟨gz, oz + (k + 1), none⟩) (by show gz < _; omega)).trans ((hb4.cell (p := ⟨gz, oz + (k + 1), none⟩) (by show gz < _; omega)).trans c2)
            have hz5 : gz < w5.heap.size := by have := hb5.size; omega
            clear k1 hz4 c1 c2 hb4 hb5 HG
            have HS5 : Hid (w5.cell? ⟨gz, oz + k, none⟩ = some (.int .i64 p) ∧ w5.cell? ⟨gz, oz + (k + 1), none⟩ = some (.int .i64 q) ∧ Below w3.heap.size w5 w5) := ⟨k1', k2', Below.refl _ _⟩
            have i4 : IntKind.i64.wrap (q - 1) = q - 1 := IntWalk.i64_in _ (by omega)
            rcases list_snoc out with rfl | ⟨ou, l, rfl⟩
            · obtain ⟨A3, c3, rfl, _⟩ := OwnIv.slice HG5.out
              rw [List.length_nil] at *
              go_wp2
              go_quiet (fail)
              go_wp2_with fail
              have i5 : IntKind.i64.wrap ((k : Int) + 1) = (k : Int) + 1 := IntWalk.i64_in _ (by omega)
              go_region_held3 (fun w' => w'.cell? ⟨gz, oz + k, none⟩ = some (.int .i64 p) ∧ w'.cell? ⟨gz, oz + (k + 1), none⟩ = some (.int .i64 q) ∧ Below w3.heap.size w5 w')
                ((first | exact fkd HS5.out | exact fka hgz hbw5.size HS5.out | exact fkg hgz hbw5.size HS5.out HG5.out hg6 | fail))
                (first | (refine step_append_iv (by rfl) (.tmp 101) (.tmp 113) (by rfl) w3.heap.size _ [] (by rfl) (fown HG5.out) _ _ [(p, q - 1)] (by rfl) (fone w5 p (q - 1)) (by simp) (fsz hbw5.size) ?_; intro v' w6 hown' hg6))
              rename_i hH
              have HO' := Lib.hid hown'
              have hbw6 := hbw5.trans hH.2.2
              clear hown' hg6 hH i4 i5
              go_wp2
              go_roundw
              case rel => exact ⟨k + 1, by omega, by go_num, by rw [HF'.out, segIv_nil]; exact HO'.out, hbw6⟩
              case measure => simp [intOf]; omega
            · obtain ⟨og, ocap, rfl, hbg, hglt, hc3, hf3⟩ := own_last HG5.out
              obtain ⟨l1, l2⟩ := l
              have hl12 : l1 ≤ l2 := HB1.out.1 (l1, l2) (by simp)
              have hl2 : l2 < p := HB2.out (l1, l2) (by simp)
              have hl3 : z0 ≤ l2 := HB3.out l2 ⟨(l1, l2), by simp, hl12, Int.le_refl _⟩
              have hol : ou.length + 1 ≤ k := by simpa using g4
              obtain ⟨n, hn⟩ : ∃ n, n = ou.length := ⟨_, rfl⟩
              rw [← hn] at hc3 hf3 hol ⊢
              have HNN := Lib.hid hn
              have HG5' : Hid (OwnIv w5 w3.heap.size (.slice (some ⟨og, 0, none⟩) (n + 1) ocap) (ou ++ [(l1, l2)])) := by rw [hn]; exact HG5.out
              clear hn g4
              simp only at hc3
              have j0 : (0 : Int) ≤ (n : Int) := by omega
              have j1 : (n : Int) < (n : Int) + 1 := by omega
              have j2 : IntKind.i64.wrap (l2 + 1) = l2 + 1 := IntWalk.i64_in _ (by omega)
              by_cases hj : l2 + 1 = p
              · go_wp2
                go_quiet (fail)
                clear j2
                go_wp2
                go_roundw
                case rel =>
                  refine ⟨k + 1, by omega, by go_num, ?_, below_drewN_set (hbw5) hbg⟩
                  rw [HF'.out, segIv_snoc, if_pos hj, HNN.out]
                  exact own_set (HG5.out : OwnIv (w5.drewN _) w3.heap.size (.slice (some ⟨og, 0, none⟩) (ou.length + 1) ocap) (ou ++ [(l1, l2)])) (q - 1)
                case measure => simp [intOf]; omega
              · have hj' : (l2 + 1 == p) = false := by simpa using hj
                go_wp2
                go_quiet (fail)
                clear j2
                go_wp2_with fail
                have i5 : IntKind.i64.wrap ((k : Int) + 1) = (k : Int) + 1 := IntWalk.i64_in _ (by omega)
                go_region_held3 (fun w' => w'.cell? ⟨gz, oz + k, none⟩ = some (.int .i64 p) ∧ w'.cell? ⟨gz, oz + (k + 1), none⟩ = some (.int .i64 q) ∧ Below w3.heap.size w5 w')
                  ((first | exact fkd HS5.out | exact fka hgz hbw5.size HS5.out | exact fkg hgz hbw5.size HS5.out HG5.out hg6 | fail))
                  (first | (refine step_append_iv (by rfl) (.tmp 101) (.tmp 113) (by rfl) w3.heap.size _ (ou ++ [(l1, l2)]) (by rfl) (fown HG5'.out) _ _ [(p, q - 1)] (by rfl) (fone w5 p (q - 1)) (by rw [List.length_append, ← HNN.out]; simp; omega) (fsz hbw5.size) ?_; intro v' w6 hown' hg6))
                rename_i hH
                have HO' := Lib.hid hown'
                have hbw6 := hbw5.trans hH.2.2
                clear hown' hg6 hH i4 i5
                go_wp2
                go_roundw
                case rel => exact ⟨k + 1, by omega, by go_num, by rw [HF'.out, segIv_snoc, if_neg hj]; exact HO'.out, hbw6⟩
                case measure => simp [intOf]; omega
          · have HF' : Hid (formSt 2 xs ys at' (k + 1) = segIv out p q true) := HF.out
            clear HF
            go_wp2_with fail
            refine (HI1.out _ hbw).mono ?_
            rintro e w4 ⟨rfl, hb4⟩
            have hbw4 : Below w3.heap.size w3 w4 := hbw.trans (hb4.mono hbw.size)
            have k1 := (hb4.cell (p := ⟨gz, oz + k, none⟩) (by show gz < _; omega)).trans c1
            have hz4 : gz < w4.heap.size := by have := hb4.size; omega
            go_wp2_with fail
            refine (HI2.out _ hbw4).mono ?_
            rintro e w5 ⟨rfl, hb5⟩
            have hbw5 : Below w3.heap.size w3 w5 := hbw4.trans (hb5.mono hbw4.size)
            have HG5 := Lib.hid (own_grow HG.out (hb4.trans (hb5.mono hb4.size)))
            have k1' := (hb5.cell (p := ⟨gz, oz + k, none⟩) (by show gz < _; omega)).trans k1
            have k2' := (hb5.cell (p := ⟨gz, oz + (k + 1), none⟩) (by show gz < _; omega)).trans ((hb4.cell (p := ⟨gz, oz + (k + 1), none⟩) (by show gz < _; omega)).trans c2)
            have hz5 : gz < w5.heap.size := by have := hb5.size; omega
            clear k1 hz4 c1 c2 hb4 hb5 HG
            have HS5 : Hid (w5.cell? ⟨gz, oz + k, none⟩ = some (.int .i64 p) ∧ w5.cell? ⟨gz, oz + (k + 1), none⟩ = some (.int .i64 q) ∧ Below w3.heap.size w5 w5) := ⟨k1', k2', Below.refl _ _⟩
            have i4 : IntKind.i64.wrap (q - 1) = q - 1 := IntWalk.i64_in _ (by omega)
            rcases list_snoc out with rfl | ⟨ou, l, rfl⟩
            · obtain ⟨A3, c3, rfl, _⟩ := OwnIv.slice HG5.out
              rw [List.length_nil] at *
              go_wp2
              go_quiet (fail)
              go_wp2_with fail
              have i5 : IntKind.i64.wrap ((k : Int) + 1) = (k : Int) + 1 := IntWalk.i64_in _ (by omega)
              go_region_held3 (fun w' => w'.cell? ⟨gz, oz + k, none⟩ = some (.int .i64 p) ∧ w'.cell? ⟨gz, oz + (k + 1), none⟩ = some (.int .i64 q) ∧ Below w3.heap.size w5 w')
                ((first | exact fkd HS5.out | exact fka hgz hbw5.size HS5.out | exact fkg hgz hbw5.size HS5.out HG5.out hg6 | fail))
                (first | (refine step_append_iv (by rfl) (.tmp 101) (.tmp 113) (by rfl) w3.heap.size _ [] (by rfl) (fown HG5.out) _ _ [(p, q - 1)] (by rfl) (fone w5 p (q - 1)) (by simp) (fsz hbw5.size) ?_; intro v' w6 hown' hg6))
              rename_i hH
              have HO' := Lib.hid hown'
              have hbw6 := hbw5.trans hH.2.2
              clear hown' hg6 hH i4 i5
              go_wp2
              go_roundw
              case rel => exact ⟨k + 1, by omega, by go_num, by rw [HF'.out, segIv_nil]; exact HO'.out, hbw6⟩
              case measure => simp [intOf]; omega
            · obtain ⟨og, ocap, rfl, hbg, hglt, hc3, hf3⟩ := own_last HG5.out
              obtain ⟨l1, l2⟩ := l
              have hl12 : l1 ≤ l2 := HB1.out.1 (l1, l2) (by simp)
              have hl2 : l2 < p := HB2.out (l1, l2) (by simp)
              have hl3 : z0 ≤ l2 := HB3.out l2 ⟨(l1, l2), by simp, hl12, Int.le_refl _⟩
              have hol : ou.length + 1 ≤ k := by simpa using g4
              obtain ⟨n, hn⟩ : ∃ n, n = ou.length := ⟨_, rfl⟩
              rw [← hn] at hc3 hf3 hol ⊢
              have HNN := Lib.hid hn
              have HG5' : Hid (OwnIv w5 w3.heap.size (.slice (some ⟨og, 0, none⟩) (n + 1) ocap) (ou ++ [(l1, l2)])) := by rw [hn]; exact HG5.out
              clear hn g4
              simp only at hc3
              have j0 : (0 : Int) ≤ (n : Int) := by omega
              have j1 : (n : Int) < (n : Int) + 1 := by omega
              have j2 : IntKind.i64.wrap (l2 + 1) = l2 + 1 := IntWalk.i64_in _ (by omega)
              by_cases hj : l2 + 1 = p
              · go_wp2
                go_quiet (fail)
                clear j2
                go_wp2
                go_roundw
                case rel =>
                  refine ⟨k + 1, by omega, by go_num, ?_, below_drewN_set (hbw5) hbg⟩
                  rw [HF'.out, segIv_snoc, if_pos hj, HNN.out]
                  exact own_set (HG5.out : OwnIv (w5.drewN _) w3.heap.size (.slice (some ⟨og, 0, none⟩) (ou.length + 1) ocap) (ou ++ [(l1, l2)])) (q - 1)
                case measure => simp [intOf]; omega
              · have hj' : (l2 + 1 == p) = false := by simpa using hj
                go_wp2
                go_quiet (fail)
                clear j2
                go_wp2_with fail
                have i5 : IntKind.i64.wrap ((k : Int) + 1) = (k : Int) + 1 := IntWalk.i64_in _ (by omega)
                go_region_held3 (fun w' => w'.cell? ⟨gz, oz + k, none⟩ = some (.int .i64 p) ∧ w'.cell? ⟨gz, oz + (k + 1), none⟩ = some (.int .i64 q) ∧ Below w3.heap.size w5 w')
                  ((first | exact fkd HS5.out | exact fka hgz hbw5.size HS5.out | exact fkg hgz hbw5.size HS5.out HG5.out hg6 | fail))
                  (first | (refine step_append_iv (by rfl) (.tmp 101) (.tmp 113) (by rfl) w3.heap.size _ (ou ++ [(l1, l2)]) (by rfl) (fown HG5'.out) _ _ [(p, q - 1)] (by rfl) (fone w5 p (q - 1)) (by rw [List.length_append, ← HNN.out]; simp; omega) (fsz hbw5.size) ?_; intro v' w6 hown' hg6))
                rename_i hH
                have HO' := Lib.hid hown'
                have hbw6 := hbw5.trans hH.2.2
                clear hown' hg6 hH i4 i5
                go_wp2
                go_roundw
                case rel => exact ⟨k + 1, by omega, by go_num, by rw [HF'.out, segIv_snoc, if_neg hj]; exact HO'.out, hbw6⟩
                case measure => simp [intOf]; omega
          · have HF' : Hid (formSt 3 xs ys at' (k + 1) = segIv out p q false) := HF.out
            clear HF
            go_wp2_with fail
            refine (HI1.out _ hbw).mono ?_
            rintro e w4 ⟨rfl, hb4⟩
            have hbw4 : Below w3.heap.size w3 w4 := hbw.trans (hb4.mono hbw.size)
            have k1 := (hb4.cell (p := ⟨gz, oz + k, none⟩) (by show gz < _; omega)).trans c1
            have hz4 : gz < w4.heap.size := by have := hb4.size; omega
            go_wp2_with fail
            refine (HI2.out _ hbw4).mono ?_
            rintro e w5 ⟨rfl, hb5⟩
            have hbw5 : Below w3.heap.size w3 w5 := hbw4.trans (hb5.mono hbw4.size)
            have HG5 := Lib.hid (own_grow HG.out (hb4.trans (hb5.mono hb4.size)))
            have k1' := (hb5.cell (p := ⟨gz, oz + k, none⟩) (by show gz < _; omega)).trans k1
            have k2' := (hb5.cell (p := ⟨gz, oz + (k + 1), none⟩) (by show gz < _; omega)).trans ((hb4.cell (p := ⟨gz, oz + (k + 1), none⟩) (by show gz < _; omega)).trans c2)
            have hz5 : gz < w5.heap.size := by have := hb5.size; omega
            clear k1 hz4 c1 c2 hb4 hb5 HG
            go_wp2
            go_roundw
            case rel => exact ⟨k + 1, by omega, by go_num, by rw [HF'.out]; exact HG5.out, hbw5⟩
            case measure => simp [intOf]; omega
      | false =>
        rw [hm1] at hI1 HF
        have HI1 := Lib.hid hI1
        clear hI1 hm1
        cases hm2 : memB p ys with
        | true =>
          rw [hm2] at hI2 HF
          have HI2 := Lib.hid hI2
          clear hI2 hm2
          rcases hk with rfl | rfl | rfl
          · have HF' : Hid (formSt 1 xs ys at' (k + 1) = segIv out p q true) := HF.out
            clear HF
            go_wp2_with fail
            refine (HI1.out _ hbw).mono ?_
            rintro e w4 ⟨rfl, hb4⟩
            have hbw4 : Below w3.heap.size w3 w4 := hbw.trans (hb4.mono hbw.size)
            have k1 := (hb4.cell (p := ⟨gz, oz + k, none⟩) (by show gz < _; omega)).trans c1
            have hz4 : gz < w4.heap.size := by have := hb4.size; omega
            go_wp2_with fail
            refine (HI2.out _ hbw4).mono ?_
            rintro e w5 ⟨rfl, hb5⟩
            have hbw5 : Below w3.heap.size w3 w5 := hbw4.trans (hb5.mono hbw4.size)
            have HG5 := Lib.hid (own_grow HG.out (hb4.trans (hb5.mono hb4.size)))
            have k1' := (hb5.cell (p := ⟨gz, oz + k, none⟩) (by show gz < _; omega)).trans k1
            have k2' := (hb5.cell (p := ⟨gz, oz + (k + 1), none⟩) (by show gz < _; omega)).trans ((hb4.cell (p := ⟨gz, oz + (k + 1), none⟩) (by show gz < _; omega)).trans c2)
            have hz5 : gz < w5.heap.size := by have := hb5.size; omega
            clear k1 hz4 c1 c2 hb4 hb5 HG
            have HS5 : Hid (w5.cell? ⟨gz, oz + k, none⟩ = some (.int .i64 p) ∧ w5.cell? ⟨gz, oz + (k + 1), none⟩ = some (.int .i64 q) ∧ Below w3.heap.size w5 w5) := ⟨k1', k2', Below.refl _ _⟩
            have i4 : IntKind.i64.wrap (q - 1) = q - 1 := IntWalk.i64_in _ (by omega)
            rcases list_snoc out with rfl | ⟨ou, l, rfl⟩
            · obtain ⟨A3, c3, rfl, _⟩ := OwnIv.slice HG5.out
              rw [List.length_nil] at *
              go_wp2
              go_quiet (fail)
              go_wp2_with fail
              have i5 : IntKind.i64.wrap ((k : Int) + 1) = (k : Int) + 1 := IntWalk.i64_in _ (by omega)
              go_region_held3 (fun w' => w'.cell? ⟨gz, oz + k, none⟩ = some (.int .i64 p) ∧ w'.cell? ⟨gz, oz + (k + 1), none⟩ = some (.int .i64 q) ∧ Below w3.heap.size w5 w')
                ((first | exact fkd HS5.out | exact fka hgz hbw5.size HS5.out | exact fkg hgz hbw5.size HS5.out HG5.out hg6 | fail))
                (first | (refine step_append_iv (by rfl) (.tmp 101) (.tmp 113) (by rfl) w3.heap.size _ [] (by rfl) (fown HG5.out) _ _ [(p, q - 1)] (by rfl) (fone w5 p (q - 1)) (by simp) (fsz hbw5.size) ?_; intro v' w6 hown' hg6))
              rename_i hH
              have HO' := Lib.hid hown'
              have hbw6 := hbw5.trans hH.2.2
              clear hown' hg6 hH i4 i5
              go_wp2
              go_roundw
              case rel => exact ⟨k + 1, by omega, by go_num, by rw [HF'.out, segIv_nil]; exact HO'.out, hbw6⟩
              case measure => simp [intOf]; omega
            · obtain ⟨og, ocap, rfl, hbg, hglt, hc3, hf3⟩ := own_last HG5.out
              obtain ⟨l1, l2⟩ := l
              have hl12 : l1 ≤ l2 := HB1.out.1 (l1, l2) (by simp)
              have hl2 : l2 < p := HB2.out (l1, l2) (by simp)
              have hl3 : z0 ≤ l2 := HB3.out l2 ⟨(l1, l2), by simp, hl12, Int.le_refl _⟩
              have hol : ou.length + 1 ≤ k := by simpa using g4
              obtain ⟨n, hn⟩ : ∃ n, n = ou.length := ⟨_, rfl⟩
              rw [← hn] at hc3 hf3 hol ⊢
              have HNN := Lib.hid hn
              have HG5' : Hid (OwnIv w5 w3.heap.size (.slice (some ⟨og, 0, none⟩) (n + 1) ocap) (ou ++ [(l1, l2)])) := by rw [hn]; exact HG5.out
              clear hn g4
              simp only at hc3
              have j0 : (0 : Int) ≤ (n : Int) := by omega
              have j1 : (n : Int) < (n : Int) + 1 := by omega
              have j2 : IntKind.i64.wrap (l2 + 1) = l2 + 1 := IntWalk.i64_in _ (by omega)
              by_cases hj : l2 + 1 = p
              · go_wp2
                go_quiet (fail)
                clear j2
                go_wp2
                go_roundw
                case rel =>
                  refine ⟨k + 1, by omega, by go_num, ?_, below_drewN_set (hbw5) hbg⟩
                  rw [HF'.out, segIv_snoc, if_pos hj, HNN.out]
                  exact own_set (HG5.out : OwnIv (w5.drewN _) w3.heap.size (.slice (some ⟨og, 0, none⟩) (ou.length + 1) ocap) (ou ++ [(l1, l2)])) (q - 1)
                case measure => simp [intOf]; omega
              · have hj' : (l2 + 1 == p) = false := by simpa using hj
                go_wp2
                go_quiet (fail)
                clear j2
                go_wp2_with fail
                have i5 : IntKind.i64.wrap ((k : Int) + 1) = (k : Int) + 1 := IntWalk.i64_in _ (by omega)
                go_region_held3 (fun w' => w'.cell? ⟨gz, oz + k, none⟩ = some (.int .i64 p) ∧ w'.cell? ⟨gz, oz + (k + 1), none⟩ = some (.int .i64 q) ∧ Below w3.heap.size w5 w')
                  ((first | exact fkd HS5.out | exact fka hgz hbw5.size HS5.out | exact fkg hgz hbw5.size HS5.out HG5.out hg6 | fail))
                  (first | (refine step_append_iv (by rfl) (.tmp 101) (.tmp 113) (by rfl) w3.heap.size _ (ou ++ [(l1, l2)]) (by rfl) (fown HG5'.out) _ _ [(p, q - 1)] (by rfl) (fone w5 p (q - 1)) (by rw [List.length_append, ← HNN.out]; simp; omega) (fsz hbw5.size) ?_; intro v' w6 hown' hg6))
                rename_i hH
                have HO' := Lib.hid hown'
                have hbw6 := hbw5.trans hH.2.2
                clear hown' hg6 hH i4 i5
                go_wp2
                go_roundw
                case rel => exact ⟨k + 1, by omega, by go_num, by rw [HF'.out, segIv_snoc, if_neg hj]; exact HO'.out, hbw6⟩
                case measure => simp [intOf]; omega
          · have HF' : Hid (formSt 2 xs ys at' (k + 1) = segIv out p q false) := HF.out
            clear HF
            go_wp2_with fail
            refine (HI1.out _ hbw).mono ?_
            rintro e w4 ⟨rfl, hb4⟩
            have hbw4 : Below w3.heap.size w3 w4 := hbw.trans (hb4.mono hbw.size)
            have k1 := (hb4.cell (p := ⟨gz, oz + k, none⟩) (by show gz < _; omega)).trans c1
            have hz4 : gz < w4.heap.size := by have := hb4.size; omega
            go_wp2_with fail
            refine (HI2.out _ hbw4).mono ?_
            rintro e w5 ⟨rfl, hb5⟩
            have hbw5 : Below w3.heap.size w3 w5 := hbw4.trans (hb5.mono hbw4.size)
            have HG5 := Lib.hid (own_grow HG.out (hb4.trans (hb5.mono hb4.size)))
            have k1' := (hb5.cell (p := ⟨gz, oz + k, none⟩) (by show gz < _; omega)).trans k1
            have k2' := (hb5.cell (p := ⟨gz, oz + (k + 1), none⟩) (by show gz < _; omega)).trans ((hb4.cell (p := ⟨gz, oz + (k + 1), none⟩) (by show gz < _; omega)).trans c2)
            have hz5 : gz < w5.heap.size := by have := hb5.size; omega
            clear k1 hz4 c1 c2 hb4 hb5 HG
            go_wp2
            go_roundw
            case rel => exact ⟨k + 1, by omega, by go_num, by rw [HF'.out]; exact HG5.out, hbw5⟩
            case measure => simp [intOf]; omega
          · have HF' : Hid (formSt 3 xs ys at' (k + 1) = segIv out p q false) := HF.out
            clear HF
            go_wp2_with fail
            refine (HI1.out _ hbw).mono ?_
            rintro e w4 ⟨rfl, hb4⟩
            have hbw4 : Below w3.heap.size w3 w4 := hbw.trans (hb4.mono hbw.size)
            have k1 := (hb4.cell (p := ⟨gz, oz + k, none⟩) (by show gz < _; omega)).trans c1
            have hz4 : gz < w4.heap.size := by have := hb4.size; omega
            go_wp2_with fail
            refine (HI2.out _ hbw4).mono ?_
            rintro e w5 ⟨rfl, hb5⟩
            have hbw5 : Below w3.heap.size w3 w5 := hbw4.trans (hb5.mono hbw4.size)
            have HG5 := Lib.hid (own_grow HG.out (hb4.trans (hb5.mono hb4.size)))
            have k1' := (hb5.cell (p := ⟨gz, oz + k, none⟩) (by show gz < _; omega)).trans k1
            have k2' := (hb5.cell (p := ⟨gz, oz + (k + 1), none⟩) (by show gz < _; omega)).trans ((hb4.cell (p := ⟨gz, oz + (k + 1), none⟩) (by show gz < _; omega)).trans c2)
            have hz5 : gz < w5.heap.size := by have := hb5.size; omega
            clear k1 hz4 c1 c2 hb4 hb5 HG
            go_wp2
            go_roundw
            case rel => exact ⟨k + 1, by omega, by go_num, by rw [HF'.out]; exact HG5.out, hbw5⟩
            case measure => simp [intOf]; omega
        | false =>
          rw [hm2] at hI2 HF
          have HI2 := Lib.hid hI2
          clear hI2 hm2
          rcases hk with rfl | rfl | rfl
          · have HF' : Hid (formSt 1 xs ys at' (k + 1) = segIv out p q false) := HF.out
            clear HF
            go_wp2_with fail
            refine (HI1.out _ hbw).mono ?_
            rintro e w4 ⟨rfl, hb4⟩
            have hbw4 : Below w3.heap.size w3 w4 := hbw.trans (hb4.mono hbw.size)
            have k1 := (hb4.cell (p := ⟨gz, oz + k, none⟩) (by show gz < _; omega)).trans c1
            have hz4 : gz < w4.heap.size := by have := hb4.size; omega
            go_wp2_with fail
            refine (HI2.out _ hbw4).mono ?_
            rintro e w5 ⟨rfl, hb5⟩
            have hbw5 : Below w3.heap.size w3 w5 := hbw4.trans (hb5.mono hbw4.size)
            have HG5 := Lib.hid (own_grow HG.out (hb4.trans (hb5.mono hb4.size)))
            have k1' := (hb5.cell (p := ⟨gz, oz + k, none⟩) (by show gz < _; omega)).trans k1
            have k2' := (hb5.cell (p := ⟨gz, oz + (k + 1), none⟩) (by show gz < _; omega)).trans ((hb4.cell (p := ⟨gz, oz + (k + 1), none⟩) (by show gz < _; omega)).trans c2)
            have hz5 : gz < w5.heap.size := by have := hb5.size; omega
            clear k1 hz4 c1 c2 hb4 hb5 HG
            go_wp2
            go_roundw
            case rel => exact ⟨k + 1, by omega, by go_num, by rw [HF'.out]; exact HG5.out, hbw5⟩
            case measure => simp [intOf]; omega
          · have HF' : Hid (formSt 2 xs ys at' (k + 1) = segIv out p q false) := HF.out
            clear HF
            go_wp2_with fail
            refine (HI1.out _ hbw).mono ?_
            rintro e w4 ⟨rfl, hb4⟩
            have hbw4 : Below w3.heap.size w3 w4 := hbw.trans (hb4.mono hbw.size)
            have k1 := (hb4.cell (p := ⟨gz, oz + k, none⟩) (by show gz < _; omega)).trans c1
            have hz4 : gz < w4.heap.size := by have := hb4.size; omega
            go_wp2_with fail
            refine (HI2.out _ hbw4).mono ?_
            rintro e w5 ⟨rfl, hb5⟩
            have hbw5 : Below w3.heap.size w3 w5 := hbw4.trans (hb5.mono hbw4.size)
            have HG5 := Lib.hid (own_grow HG.out (hb4.trans (hb5.mono hb4.size)))
            have k1' := (hb5.cell (p := ⟨gz, oz + k, none⟩) (by show gz < _; omega)).trans k1
            have k2' := (hb5.cell (p := ⟨gz, oz + (k + 1), none⟩) (by show gz < _; omega)).trans ((hb4.cell (p := ⟨gz, oz + (k + 1), none⟩) (by show gz < _; omega)).trans c2)
            have hz5 : gz < w5.heap.size := by have := hb5.size; omega
            clear k1 hz4 c1 c2 hb4 hb5 HG
            go_wp2
            go_roundw
            case rel => exact ⟨k + 1, by omega, by go_num, by rw [HF'.out]; exact HG5.out, hbw5⟩
            case measure => simp [intOf]; omega
          · have HF' : Hid (formSt 3 xs ys at' (k + 1) = segIv out p q false) := HF.out
            clear HF
            go_wp2_with fail
            refine (HI1.out _ hbw).mono ?_
            rintro e w4 ⟨rfl, hb4⟩
            have hbw4 : Below w3.heap.size w3 w4 := hbw.trans (hb4.mono hbw.size)
            have k1 := (hb4.cell (p := ⟨gz, oz + k, none⟩) (by show gz < _; omega)).trans c1
            have hz4 : gz < w4.heap.size := by have := hb4.size; omega
            go_wp2_with fail
            refine (HI2.out _ hbw4).mono ?_
            rintro e w5 ⟨rfl, hb5⟩
            have hbw5 : Below w3.heap.size w3 w5 := hbw4.trans (hb5.mono hbw4.size)
            have HG5 := Lib.hid (own_grow HG.out (hb4.trans (hb5.mono hb4.size)))
            have k1' := (hb5.cell (p := ⟨gz, oz + k, none⟩) (by show gz < _; omega)).trans k1
            have k2' := (hb5.cell (p := ⟨gz, oz + (k + 1), none⟩) (by show gz < _; omega)).trans ((hb4.cell (p := ⟨gz, oz + (k + 1), none⟩) (by show gz < _; omega)).trans c2)
            have hz5 : gz < w5.heap.size := by have := hb5.size; omega
            clear k1 hz4 c1 c2 hb4 hb5 HG
            go_wp2
            go_roundw
            case rel => exact ⟨k + 1, by omega, by go_num, by rw [HF'.out]; exact HG5.out, hbw5⟩
            case measure => simp [intOf]; omega
    · have hkl' : k = at'.length - 1 := by omega
      have hx1 : decide ((k : Int) + 1 < (at'.length : Int)) = false := by simp; omega
      have hx2 : decide (k + 1 < at'.length) = false := by simp; omega
      have HO2 := Lib.hid hown
      clear hown
      go_wp2_with fail
      go_ret
      exact ⟨_, rfl, by rw [HRES.out, ← hkl']; exact own_base HO2.out hb3'.size, hb3'.trans (hbw.mono hb3'.size)⟩
end Go.Proofs.YtbhkbhaepefdgaaDoor
