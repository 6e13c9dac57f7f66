/- Told calls and operations beside lists that symbols stand for; pieces of code over such rows. -/
import Derived.Test.YtllnglofbhmcgaaGreatTkB
namespace Go.Ev
open Go.RowKit

mutual
theorem den_symE {C D : Ctxt} (h : C.sym = D.sym) {e : Env} : ∀ (x : CV), @den C e x = @den D e x
  | .clo v => rfl
  | .ptr i o => rfl
  | .sl i o n k s => rfl
  | .sy i => by simp only [den, h]
  | .yl i => rfl
  | .lp .. => rfl
  | .df => rfl
  | .mp .. => rfl
  | .mo .. => rfl
  | .si .. => rfl
  | .as i n => by simp only [den, h]
  | .ab .. => rfl
  | .pa i k z off => by simp only [den, den_symE h k]
  | .fn f l m => by simp only [den, denL_symE h l, denL_symE h m]
  | .agg l => by simp only [den, denL_symE h l]
  | .tup l => by simp only [den, denL_symE h l]
theorem denL_symE {C D : Ctxt} (h : C.sym = D.sym) {e : Env} : ∀ (l : List CV), @denL C e l = @denL D e l
  | [] => rfl
  | x :: r => by simp only [denL, den_symE h x, denL_symE h r]
end

/-! ### Tables of lists -/
abbrev KIx := Tm × CV
abbrev KGt := Tm × CV × Nat × Nat × Nat × List CV
abbrev KPt := Tm × CV × Nat × Nat × List CV × Tm
abbrev KAp := Tm × Tm × Nat × List CV × Tm × Tm
def findG : List KGt → Tm → CV → Nat → Nat → Nat → Option (List CV)
  | [], _, _, _, _, _ => none
  | r :: l, y, k, z, off, cnt => cond (eqT r.1 y && eqC r.2.1 k && Nat.beq r.2.2.1 z && Nat.beq r.2.2.2.1 off && Nat.beq r.2.2.2.2.1 cnt) (some r.2.2.2.2.2) (findG l y k z off cnt)
def findP : List KPt → Tm → CV → Nat → Nat → List CV → Option Tm
  | [], _, _, _, _, _ => none
  | r :: l, y, k, z, off, x => cond (eqT r.1 y && eqC r.2.1 k && Nat.beq r.2.2.1 z && Nat.beq r.2.2.2.1 off && eqCL r.2.2.2.2.1 x) (some r.2.2.2.2.2) (findP l y k z off x)
def findA : List KAp → Tm → Tm → Nat → List CV → Option (Tm × Tm)
  | [], _, _, _, _ => none
  | r :: l, y, n, z, x => cond (eqT r.1 y && eqT r.2.1 n && Nat.beq r.2.2.1 z && eqCL r.2.2.2.1 x) (some r.2.2.2.2) (findA l y n z x)
def findI : List KIx → Tm → CV → Bool
  | [], _, _ => false
  | r :: l, n, k => cond (eqT r.1 n && eqC r.2 k) true (findI l n k)
theorem findG_mem : ∀ {l : List KGt} {y k z off cnt x}, findG l y k z off cnt = some x → (y, k, z, off, cnt, x) ∈ l
  | [], _, _, _, _, _, _, h => by cases h
  | r :: l, y, k, z, off, cnt, x, h => by
    rw [findG, Bool.cond_eq_ite] at h
    split at h
    · rename_i hc
      simp only [Bool.and_eq_true] at hc
      obtain ⟨⟨⟨⟨h1, h2⟩, h3⟩, h4⟩, h5⟩ := hc
      obtain ⟨a, b, c, d, e, f⟩ := r
      have h1 := eqT_eq h1; have h2 := eqC_eq _ _ h2
      have h3 := Nat.eq_of_beq_eq_true h3; have h4 := Nat.eq_of_beq_eq_true h4; have h5 := Nat.eq_of_beq_eq_true h5
      simp only at h1 h2 h3 h4 h5 h
      subst h1; subst h2; subst h3; subst h4; subst h5
      cases h
      exact List.mem_cons_self
    · exact List.mem_cons_of_mem _ (findG_mem h)
theorem findP_mem : ∀ {l : List KPt} {y k z off x y'}, findP l y k z off x = some y' → (y, k, z, off, x, y') ∈ l
  | [], _, _, _, _, _, _, h => by cases h
  | r :: l, y, k, z, off, x, y', h => by
    rw [findP, Bool.cond_eq_ite] at h
    split at h
    · rename_i hc
      simp only [Bool.and_eq_true] at hc
      obtain ⟨⟨⟨⟨h1, h2⟩, h3⟩, h4⟩, h5⟩ := hc
      obtain ⟨a, b, c, d, e, f⟩ := r
      have h1 := eqT_eq h1; have h2 := eqC_eq _ _ h2
      have h3 := Nat.eq_of_beq_eq_true h3; have h4 := Nat.eq_of_beq_eq_true h4; have h5 := eqCL_eq _ _ h5
      simp only at h1 h2 h3 h4 h5 h
      subst h1; subst h2; subst h3; subst h4; subst h5
      cases h
      exact List.mem_cons_self
    · exact List.mem_cons_of_mem _ (findP_mem h)
theorem findA_mem : ∀ {l : List KAp} {y n z x r}, findA l y n z x = some r → (y, n, z, x, r.1, r.2) ∈ l
  | [], _, _, _, _, _, h => by cases h
  | r :: l, y, n, z, x, q, h => by
    rw [findA, Bool.cond_eq_ite] at h
    split at h
    · rename_i hc
      simp only [Bool.and_eq_true] at hc
      obtain ⟨⟨⟨h1, h2⟩, h3⟩, h4⟩ := hc
      obtain ⟨a, b, c, d, e, f⟩ := r
      have h1 := eqT_eq h1; have h2 := eqT_eq h2
      have h3 := Nat.eq_of_beq_eq_true h3; have h4 := eqCL_eq _ _ h4
      simp only at h1 h2 h3 h4 h
      subst h1; subst h2; subst h3; subst h4
      cases h
      exact List.mem_cons_self
    · exact List.mem_cons_of_mem _ (findA_mem h)
theorem findI_mem : ∀ {l : List KIx} {n k}, findI l n k = true → (n, k) ∈ l
  | [], _, _, h => by cases h
  | r :: l, n, k, h => by
    rw [findI, Bool.cond_eq_ite] at h
    split at h
    · rename_i hc
      simp only [Bool.and_eq_true] at hc
      obtain ⟨a, b⟩ := r
      have h1 := eqT_eq hc.1; have h2 := eqC_eq _ _ hc.2
      simp only at h1 h2
      subst h1; subst h2
      exact List.mem_cons_self
    · exact List.mem_cons_of_mem _ (findI_mem h)
/-- A call that makes rows or takes some: the function, the arguments with their lists, the result over the names of the new rows, these rows. -/
abbrev KCl := FuncId × List CV × (Nat → CV) × List (Tm × TypeId × Nat)
mutual
def eqLb : CV → CV → Bool
  | .mo [.ab y t z] [.sy n], .mo [.ab y' t' z'] [.sy n'] => eqT y y' && Nat.beq t t' && Nat.beq z z' && eqT n n'
  | .agg l, .agg m => eqLbL l m
  | .clo v, .clo u => eqV2 v u
  | .sy i, .sy j => eqT i j
  | _, _ => false
def eqLbL : List CV → List CV → Bool
  | [], [] => true
  | x :: r, y :: s => eqLb x y && eqLbL r s
  | _, _ => false
end
mutual
theorem eqLb_eq : ∀ (x y : CV), eqLb x y = true → x = y
  | x, y, h => by
    unfold eqLb at h
    split at h
    · simp only [Bool.and_eq_true] at h
      obtain ⟨⟨⟨h1, h2⟩, h3⟩, h4⟩ := h
      rw [eqT_eq h1, Nat.eq_of_beq_eq_true h2, Nat.eq_of_beq_eq_true h3, eqT_eq h4]
    · rename_i l m
      rw [eqLbL_eq l m h]
    · rw [eqV2_eq h]
    · rw [eqT_eq h]
    · cases h
theorem eqLbL_eq : ∀ (l m : List CV), eqLbL l m = true → l = m
  | [], m, h => by cases m <;> simp [eqLbL] at h; rfl
  | x :: r, m, h => by
    cases m with
    | nil => simp [eqLbL] at h
    | cons y s =>
      simp only [eqLbL, Bool.and_eq_true] at h
      rw [eqLb_eq x y h.1, eqLbL_eq r s h.2]
end
def findK : List KCl → FuncId → List CV → Nat → Option (CV × List (Tm × TypeId × Nat))
  | [], _, _, _ => none
  | r :: l, f, args, base => cond (Nat.beq r.1 f && eqLbL r.2.1 args) (some (r.2.2.1 base, r.2.2.2)) (findK l f args base)
theorem findK_mem : ∀ {l : List KCl} {f args base v bs}, findK l f args base = some (v, bs) → ∃ res, (f, args, res, bs) ∈ l ∧ v = res base
  | [], _, _, _, _, _, h => by cases h
  | r :: l, f, args, base, v, bs, h => by
    rw [findK, Bool.cond_eq_ite] at h
    split at h
    · rename_i hc
      simp only [Bool.and_eq_true] at hc
      obtain ⟨a, b, c, d⟩ := r
      have h1 := Nat.eq_of_beq_eq_true hc.1; have h2 := eqLbL_eq _ _ hc.2
      simp only at h1 h2 h
      subst h1; subst h2
      simp only [Option.some.injEq, Prod.mk.injEq] at h
      obtain ⟨rfl, rfl⟩ := h
      exact ⟨c, List.mem_cons_self, rfl⟩
    · obtain ⟨res, h1, h2⟩ := findK_mem h
      exact ⟨res, List.mem_cons_of_mem _ h1, h2⟩
/-- A row with this list lies in a world at a place. -/
def LsAt (lst : Tm → List Value) (b : Tm × TypeId × Nat) (p : Nat × Nat) (w : World) : Prop :=
  ∃ c, w.heap[p.1]? = some (.cells c b.2.1 (0, 0)) ∧ c.toList.take (lst b.1).length = lst b.1 ∧ c.size = p.2 * b.2.2 ∧ p.2 ≤ maxLen
mutual
/-- A value is what the argument with its lists says. -/
def LabV (lst : Tm → List Value) (sym : Tm → Sym) (w : World) : CV → Value → Prop
  | .mo [.ab y t z] [.sy n], x => ∃ p m, x = .slice (some ⟨p.1, 0, none⟩) m p.2 ∧ asN (sym n).v = some m ∧ LsAt lst (y, t, z) p w
  | .agg l, x => ∃ xs, LabL lst sym w l xs ∧ x = .agg xs.toArray
  | .clo v, x => x = v
  | .sy i, x => x = (sym i).v
  | _, _ => False
def LabL (lst : Tm → List Value) (sym : Tm → Sym) (w : World) : List CV → List Value → Prop
  | [], [] => True
  | c :: r, x :: s => LabV lst sym w c x ∧ LabL lst sym w r s
  | _, _ => False
end
mutual
def plainA : CV → Bool
  | .mo [.ab ..] [.sy _] => true
  | .agg l => plainAL l
  | .clo _ => true
  | .sy _ => true
  | _ => false
def plainAL : List CV → Bool
  | [] => true
  | x :: r => plainA x && plainAL r
end
/-- A slice that is made: the type of its elements, its length, the list, its length again. -/
abbrev KMk := TypeId × CV × Tm × Tm
def findM : List KMk → TypeId → CV → Option (Tm × Tm)
  | [], _, _ => none
  | r :: l, t, k => cond (Nat.beq r.1 t && eqC r.2.1 k) (some r.2.2) (findM l t k)
theorem findM_mem : ∀ {l : List KMk} {t k q}, findM l t k = some q → (t, k, q.1, q.2) ∈ l
  | [], _, _, _, h => by cases h
  | r :: l, t, k, q, h => by
    rw [findM, Bool.cond_eq_ite] at h
    split at h
    · rename_i hc
      simp only [Bool.and_eq_true] at hc
      obtain ⟨a, b, c, d⟩ := r
      have h1 := Nat.eq_of_beq_eq_true hc.1; have h2 := eqC_eq _ _ hc.2
      simp only at h1 h2 h
      subst h1; subst h2
      cases h
      exact List.mem_cons_self
    · exact List.mem_cons_of_mem _ (findM_mem h)
/-- What is told of lists. -/
structure Abs where
  lst : Tm → List Value
  ix : List KIx := []
  gt : List KGt := []
  pt : List KPt := []
  ap : List KAp := []
  cl : List KCl := []
  ms : List KMk := []
def Abs.tab (A : Abs) : AbT := ⟨A.lst, findI A.ix, findG A.gt, findP A.pt, findA A.ap, findK A.cl, findM A.ms⟩
abbrev toldX (sym : Tm → Sym) (A : Abs) (lc : List KCall) (le : List KEq) (lv : List KOp) (K : World → Prop) (B : Nat) (kst : ∀ w w', K w → Below B w w' → K w') : Ctxt := ⟨0, sym, tabC lc, tabE le, tabV lv, K, B, kst, A.tab⟩
/-- What a told call that makes or takes rows must do. -/
def ClIs (P : Program) (sym : Tm → Sym) (lst : Tm → List Value) (K : World → Prop) (r : KCl) : Prop :=
  plainAL r.2.1 = true ∧ ∀ w xs, K w → LabL lst sym w r.2.1 xs → Calls P r.1 xs.toArray w fun q w' => Below w.heap.size w w' ∧ ∃ ps : List (Nat × Nat), ps.length = r.2.2.2.length ∧ (∀ p ∈ ps, w.heap.size ≤ p.1) ∧ (ps.map (·.1)).Nodup ∧
    (∀ (j : Nat) p b, ps[j]? = some p → r.2.2.2[j]? = some b → LsAt lst b p w') ∧ ∃ u, (∀ e base, @den (told sym [] []) (envL e base ps) (r.2.2.1 base) = some u) ∧ q = .returned u
/-- What is told of lists is right. -/
structure Abs.OK (P : Program) (A : Abs) (sym : Tm → Sym) : Prop where
  ix : ∀ r ∈ A.ix, ∃ v m N, @den (told sym [] []) (fun _ => none) r.2 = some v ∧ asN v = some m ∧ asN (sym r.1).v = some N ∧ m < N
  gt : ∀ r ∈ A.gt, ∃ v m xs, @den (told sym [] []) (fun _ => none) r.2.1 = some v ∧ asN v = some m ∧ @denL (told sym [] []) (fun _ => none) r.2.2.2.2.2 = some xs ∧ xs = ((A.lst r.1).drop (m * r.2.2.1 + r.2.2.2.1)).take r.2.2.2.2.1 ∧ xs.length = r.2.2.2.2.1
  pt : ∀ r ∈ A.pt, ∃ v m xs, @den (told sym [] []) (fun _ => none) r.2.1 = some v ∧ asN v = some m ∧ @denL (told sym [] []) (fun _ => none) r.2.2.2.2.1 = some xs ∧ m * r.2.2.1 + r.2.2.2.1 + xs.length ≤ (A.lst r.1).length ∧
    A.lst r.2.2.2.2.2 = (A.lst r.1).take (m * r.2.2.1 + r.2.2.2.1) ++ xs ++ (A.lst r.1).drop (m * r.2.2.1 + r.2.2.2.1 + xs.length)
  ap : ∀ r ∈ A.ap, ∃ xs N m, @denL (told sym [] []) (fun _ => none) r.2.2.2.1 = some xs ∧ asN (sym r.2.1).v = some N ∧ (A.lst r.1).length = N * r.2.2.1 ∧ xs.length = m * r.2.2.1 ∧ A.lst r.2.2.2.2.1 = A.lst r.1 ++ xs ∧ asN (sym r.2.2.2.2.2).v = some (N + m) ∧ N + m ≤ 1000000
  ms : ∀ r ∈ A.ms, ∃ v m, @den (told sym [] []) (fun _ => none) r.2.1 = some v ∧ asN v = some m ∧ asN (sym r.2.2.2).v = some m ∧ m ≤ 1000000 ∧ ∀ inf z, P.info? r.1 = some inf → inf.zero = some z → A.lst r.2.2.1 = cellsOfRange z.cells (m * inf.size)
section
variable {P : Program} {sym : Tm → Sym} {A : Abs} {lc : List KCall} {le : List KEq} {lv : List KOp} {K : World → Prop} {B : Nat} {kst : ∀ w w', K w → Below B w w' → K w'}
theorem up_den {e : Env} {c : CV} {v : Value} (h : @den (told sym [] []) (fun _ => none) c = some v) : @den (toldX sym A lc le lv K B kst) e c = some v :=
  @den_mono (toldX sym A lc le lv K B kst) _ e (fun i p h => by cases h) c v ((den_symE (C := toldX sym A lc le lv K B kst) (D := told sym [] []) rfl c).trans h)
theorem up_denL {e : Env} {c : List CV} {v : List Value} (h : @denL (told sym [] []) (fun _ => none) c = some v) : @denL (toldX sym A lc le lv K B kst) e c = some v :=
  @denL_mono (toldX sym A lc le lv K B kst) _ e (fun i p h => by cases h) c v ((denL_symE (C := toldX sym A lc le lv K B kst) (D := told sym [] []) rfl c).trans h)
theorem abOK_X (hA : A.OK P sym) : @AbOK (toldX sym A lc le lv K B kst) P := by
  refine ⟨fun n k h e v hv => ?_, fun y k z off cnt l h e v hv => ?_, fun y k z off l y' h e v xs hv hx => ?_, fun y n z l y' n' h e xs hx => ?_, fun t l y n h e v hv => ?_⟩
  · obtain ⟨u, m, N, h1, h2, h3, h4⟩ := hA.ix _ (findI_mem h)
    rw [up_den h1] at hv; cases hv
    exact ⟨m, N, h2, h3, h4⟩
  · obtain ⟨u, m, xs, h1, h2, h3, h4, h5⟩ := hA.gt _ (findG_mem h)
    rw [up_den h1] at hv; cases hv
    exact ⟨m, xs, h2, up_denL h3, h4, h5⟩
  · obtain ⟨u, m, ys, h1, h2, h3, h4, h5⟩ := hA.pt _ (findP_mem h)
    rw [up_den h1] at hv; cases hv
    rw [up_denL h3] at hx; cases hx
    exact ⟨m, h2, h4, h5⟩
  · obtain ⟨ys, N, m, h1, h2, h3, h4, h5, h6, h7⟩ := hA.ap _ (findA_mem h)
    rw [up_denL h1] at hx; cases hx
    exact ⟨N, m, h2, h3, h4, h5, h6, h7⟩
  · obtain ⟨u, m, h1, h2, h3, h4, h5⟩ := hA.ms _ (findM_mem h)
    rw [up_den h1] at hv; cases hv
    exact ⟨m, h2, h3, h4, h5⟩
mutual
theorem lab_val {C : Ctxt} (hC : C.sym = sym) {e : Env} {M : Mem} {w : World} (hR : @Rep C e M w) : ∀ (c : CV) (x : Value), @den C e c = some x → plainA (lab M c) = true → LabV C.ab.lst sym w (lab M c) x
  | .as i n, x, hx, hp => by
    obtain ⟨p, m, h1, h2, rfl⟩ := @den_as C _ _ _ _ hx
    cases hq : abAt M i with
    | some q =>
      simp only [lab, hq] at hp ⊢
      obtain ⟨_, hc⟩ := @abAt_rep C _ _ _ hR _ _ _ _ hq p h1
      rw [hC] at h2
      exact ⟨p, m, rfl, h2, hc⟩
    | none => simp [lab, hq, plainA] at hp
  | .agg l, x, hx, hp => by
    simp only [den, Option.map_eq_some_iff] at hx
    obtain ⟨xs, h1, rfl⟩ := hx
    simp only [lab, plainA] at hp
    simp only [lab, LabV]
    exact ⟨xs, labL_val hC hR l xs h1 hp, rfl⟩
  | .clo v, x, hx, _ => by simp [den] at hx; simp [lab, LabV, hx]
  | .sy i, x, hx, _ => by simp only [den, Option.some.injEq] at hx; rw [hC] at hx; simp [lab, LabV, hx]
  | .ptr i o, x, _, hp => by simp [lab, plainA] at hp
  | .sl i o n k s, x, _, hp => by simp [lab, plainA] at hp
  | .yl i, x, _, hp => by simp [lab, plainA] at hp
  | .lp .., x, _, hp => by simp [lab, plainA] at hp
  | .df, x, _, hp => by simp [lab, plainA] at hp
  | .mp .., x, _, hp => by simp [lab, plainA] at hp
  | .mo .., x, hx, _ => by simp [den] at hx
  | .si .., x, _, hp => by simp [lab, plainA] at hp
  | .ab .., x, _, hp => by simp [lab, plainA] at hp
  | .pa .., x, _, hp => by simp [lab, plainA] at hp
  | .fn .., x, _, hp => by simp [lab, plainA] at hp
  | .tup .., x, _, hp => by simp [lab, plainA] at hp
theorem labL_val {C : Ctxt} (hC : C.sym = sym) {e : Env} {M : Mem} {w : World} (hR : @Rep C e M w) : ∀ (c : List CV) (xs : List Value), @denL C e c = some xs → plainAL (labL M c) = true → LabL C.ab.lst sym w (labL M c) xs
  | [], xs, hx, _ => by simp [denL] at hx; subst hx; simp [labL, LabL]
  | c :: r, xs, hx, hp => by
    obtain ⟨x, ys, rfl, h1, h2⟩ := @denL_cons C _ _ _ _ hx
    simp only [labL, plainAL, Bool.and_eq_true] at hp
    simp only [labL, LabL]
    exact ⟨lab_val hC hR c x h1 hp.1, labL_val hC hR r ys h2 hp.2⟩
end
theorem clOK_X (hcl : ∀ r ∈ A.cl, ClIs P sym A.lst K r) : @ClOK (toldX sym A lc le lv K B kst) P := by
  intro f args base r bs hf e M w cs xs ha hb hR hx hn
  obtain ⟨res, hm, rfl⟩ := findK_mem hf
  obtain ⟨h1, h2⟩ := hcl _ hm
  simp only at h1 h2
  rw [← ha] at h1 h2
  have hKw : K w := @Rest.k (toldX sym A lc le lv K B kst) _ _ (@Rep.rest (toldX sym A lc le lv K B kst) _ _ _ hR)
  refine (h2 w xs hKw (labL_val (C := toldX sym A lc le lv K B kst) rfl hR cs xs hx h1)).mono fun q w' ⟨g0, ps, g1, g2, g3, g4, u, g5, g6⟩ => ?_
  exact ⟨g0, ps, g1, g2, g3, g4, u, (den_symE (C := toldX sym A lc le lv K B kst) (D := told sym [] []) rfl _).trans (g5 e base), g6⟩
theorem known_toldX (hA : A.OK P sym) (hcl : ∀ r ∈ A.cl, ClIs P sym A.lst K r) (hc : ∀ r ∈ lc, CallAt P sym K r) (he : ∀ r ∈ le, EqIs P sym r) (hv : ∀ r ∈ lv, OpAt P sym K r) : @KnownOK (toldX sym A lc le lv K B kst) P := by
  refine ⟨⟨⟨⟨abOK_X hA, fun k cs v hkv e ys hys => ?_⟩, fun op t x y b hb => ?_⟩, fun f args v hv e ys w hKw hys => ?_⟩, clOK_X hcl⟩
  · have hkv : tabV lv k cs = some v := hkv
    obtain ⟨ys', u, g1, g2, g3⟩ := hv _ (tabV_mem hkv)
    simp only at g1 g2 g3
    rw [up_denL g1] at hys; cases hys
    exact ⟨u, up_den g2, g3⟩
  · intro e xv yv hxv hyv w xo yo
    have hb : tabE le op t x y = some b := hb
    unfold tabE at hb
    split at hb
    · cases hb
    · rename_i p hp
      split at hb
      · cases hb
      · rename_i b' hb'
        obtain ⟨xv', yv', g1, g2, g3, g4⟩ := he _ (tabE0_mem hb')
        simp only at g1 g2 g3 g4
        rw [up_den g1] at hxv; cases hxv
        rw [up_den g2] at hyv; cases hyv
        cases op <;> simp [isEql] at hp <;> subst hp <;> simp at hb <;> subst hb
        · rw [Sem.run_bind, (g3 w xo yo).1, Result.andThen_ok, (g4 w).1]
        · rw [Sem.run_bind, (g3 w xo yo).2, Result.andThen_ok, (g4 w).2, Bool.not_not]
  · obtain ⟨ys', u, g1, g2, g3⟩ := hc _ (tabC_mem hv)
    simp only at g1 g2 g3
    rw [up_denL g1] at hys; cases hys
    exact (g3 w hKw).mono fun q w' ⟨h1, h2⟩ => ⟨⟨u, up_den g2, h1⟩, h2⟩
end

/-! ### Pieces of code -/
def plX (pl : List (Nat × Nat)) : Env := fun i => pl[i]?
/-- What is looked at behind a piece of code. -/
noncomputable def outC (ts ns : List Nat) : Option (Ex × Fr × Mem) → Option (Ex × List CV × List (Option Blk) × List Nat × Nat)
  | some (ex, T, M) => some (ex, ts.map T.get, ns.map M.at, T.ms, T.n)
  | none => none
/-- **A piece of code, worked out**, over blocks of any kind. -/
theorem code_X [Ctxt] {P : Program} (hm : P.follows .mixedOrders = true) (hk : KnownOK P) (hpin : Ctxt.pin = 0) (fuel : Nat) {c : Code} {n : Nat} (tl : List (Nat × CV)) (bl : List Blk) (ex : Ex) (ts ns : List Nat) (tc : List CV) (bc : List (Option Blk)) {a : Act} {w : World} (pl : List (Nat × Nat))
    (h : ∀ u, outC ts ns (evalC P fuel true 0 c (frOf n tl u) ⟨bl.length, memOf 0 bl⟩) = some (ex, tc, bc, [], n))
    (hnd : (pl.map (·.1)).Nodup) (hl : pl.length = bl.length) (hKw : Ctxt.K w) (hBw : Ctxt.B ≤ w.heap.size) (hpl : ∀ p ∈ pl, Ctxt.B ≤ p.1)
    (hsz : a.tmps.size = n) (hdf : a.defers = []) (htl : ∀ x ∈ tl, den (plX pl) x.2 = some (a.tmps.getD x.1 undef)) (hbl : ∀ (i : Nat) (b : Blk), bl[i]? = some b → ∃ p, pl[i]? = some p ∧ RepB (plX pl) b p w)
    {Q : Exit → Act → World → Prop} (hQ : ∀ e' a' w', a'.tmps.size = n → a'.defers = [] → (∀ (j t : Nat) (x : CV), ts[j]? = some t → tc[j]? = some x → den e' x = some (a'.tmps.getD t undef)) →
      (∀ (j i : Nat) (b : Blk), ns[j]? = some i → bc[j]? = some (some b) → ∃ p, e' i = some p ∧ RepB e' b p w' ∧ Ctxt.B ≤ p.1 ∧ (w.heap.size ≤ p.1 ∨ ∃ q ∈ pl, q.1 = p.1)) →
      (∀ (i : Nat) (p : Nat × Nat), pl[i]? = some p → e' i = some p) → (∀ (j k i i' : Nat) (b b' : Blk) (p p' : Nat × Nat), ns[j]? = some i → ns[k]? = some i' → bc[j]? = some (some b) → bc[k]? = some (some b') → e' i = some p → e' i' = some p' → p.1 = p'.1 → i = i') →
      Near (pl.map (·.1)) w w' → Q ex.to a' w') : c.wp P Q a w := by
  have h := h fun i => a.tmps.getD i undef
  unfold outC at h
  split at h
  · rename_i ex' T' M' hev
    simp only [Option.some.injEq, Prod.mk.injEq] at h
    obtain ⟨rfl, rfl, rfl, hms, hn'⟩ := h
    obtain ⟨hnx, hok⟩ := evalC_ok hm hk fuel true 0 c _ _ _ _ _ hev
    have hT : DT (plX pl) (frOf n tl fun i => a.tmps.getD i undef) a := by
      refine ⟨hsz.symm, fun i => ?_⟩
      show den _ (lookF (tl ++ garb _ n) i) = _
      rcases lookF_app i tl (garb (fun i => a.tmps.getD i undef) n) with ⟨x, g1, g2, g3⟩ | g
      · rw [g3, htl x g1, g2]
      · rw [g, lookF_garb]
        split
        · rfl
        · rename_i hi
          have : a.tmps.getD i undef = undef := by
            rw [Array.getD_eq_getD_getElem?, Array.getElem?_eq_none (by rw [hsz]; omega)]; rfl
          rw [this]; rfl
    have hat : ∀ i, (⟨bl.length, memOf 0 bl⟩ : Mem).at i = bl[i]? := fun i => by
      show look (memOf 0 bl) i = _
      rw [look_memOf, if_pos (Nat.zero_le _)]; rfl
    have hR : Rep (plX pl) ⟨bl.length, memOf 0 bl⟩ w := by
      refine ⟨fun i b hb => ?_, fun i b hb => ?_, fun i j b c p q hb hc' hp hq hpq => ?_, fun i p hi => absurd hi (by rw [hpin]; exact Nat.not_lt_zero i), by rw [hpin]; exact Nat.zero_le _, ⟨hKw, hBw, fun i p _ hp => ?_⟩⟩
      · rw [hat] at hb
        exact (List.getElem?_eq_some_iff.1 hb).1
      · rw [hat] at hb
        exact hbl i b hb
      · obtain ⟨hi, hpi⟩ := List.getElem?_eq_some_iff.1 (show pl[i]? = some p from hp)
        obtain ⟨hj, hqj⟩ := List.getElem?_eq_some_iff.1 (show pl[j]? = some q from hq)
        have hh := List.pairwise_iff_getElem.1 hnd
        have e1 : (pl.map (·.1))[i]'(by simpa using hi) = p.1 := by simp [hpi]
        have e2 : (pl.map (·.1))[j]'(by simpa using hj) = q.1 := by simp [hqj]
        refine Classical.byContradiction fun hij => ?_
        rcases Nat.lt_or_gt_of_ne hij with hlt | hlt
        · exact hh i j (by simpa using hi) (by simpa using hj) hlt (e1.trans (hpq.trans e2.symm))
        · exact hh j i (by simpa using hj) (by simpa using hi) hlt (e2.trans (hpq.symm.trans e1.symm))
      · exact hpl p (List.mem_of_getElem? hp)
    refine (wpIn_wide (n := 0)).1 (hok none 0 (fun _ => rfl) (plX pl) a w hT (show DFs _ [] _ from hdf) hR ⟨by rw [hpin]; exact Nat.le_refl _, Nat.zero_le _⟩ (fun i hi _ => ?_) Q fun e' a' w' hT' hd' hp' => ?_)
    · exact List.getElem?_eq_none (by rw [hl]; exact hi)
    · refine hQ e' a' w' ?_ ?_ (fun j t x ht hx => ?_) (fun j i b hi hb => ?_) (fun i p hp => hp'.le i p hp) (fun j k i i' b b' p p' hi hi' hb hb' hp hp2 hpp => ?_) ⟨hp'.os, hp'.tape, hp'.output, hp'.size, fun b hb hn => hp'.kept b hb fun i c p hc' hp hpb => ?_⟩
      · rw [← hT'.n, hn']
      · have := hd'
        unfold DF at this
        rw [hms] at this
        exact this
      · have g := hT'.get t
        rw [List.getElem?_map, ht] at hx
        simp at hx
        rw [← hx]; exact g
      · have hM : M'.at i = some b := by
          rw [List.getElem?_map, hi] at hb
          simpa using hb
        obtain ⟨p, hp, hB⟩ := hp'.rep.blk i b hM
        refine ⟨p, hp, hB, hp'.rep.rest.new i p (by rw [hpin]; exact Nat.zero_le _) hp, ?_⟩
        by_cases hi2 : i < bl.length
        · right
          obtain ⟨q, hq⟩ : ∃ q, pl[i]? = some q := ⟨pl[i]'(by omega), by simp [hl, hi2]⟩
          have := hp'.le i q hq
          rw [hp] at this; cases this
          exact ⟨p, List.mem_of_getElem? hq, rfl⟩
        · rcases hp'.fresh i b p (by simp only; omega) hM hp with hf | ⟨j', d, q, _, hd, hq, hqp⟩
          · exact .inl hf
          · exact .inr ⟨q, List.mem_of_getElem? (show pl[j']? = some q from hq), hqp⟩
      · have hM : M'.at i = some b := by
          rw [List.getElem?_map, hi] at hb
          simpa using hb
        have hM' : M'.at i' = some b' := by
          rw [List.getElem?_map, hi'] at hb'
          simpa using hb'
        exact hp'.rep.inj i i' b b' p p' hM hM' hp hp2 hpp
      · exact hn (List.mem_map.2 ⟨p, List.mem_of_getElem? (show pl[i]? = some p from hp), hpb⟩)
  · cases h
end Go.Ev
