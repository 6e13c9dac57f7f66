/- Lists that are known by symbols: the operations on them are right. -/
import Derived.Test.YtllnglofbhmcgaaGreatEvAb
namespace Go.Ev

theorem rows_of [Ctxt] {e : Env} {L : List Value} {t : TypeId} {z : Nat} {p : Nat × Nat} {w : World} {c : Array Value} (h1 : w.heap[p.1]? = some (.cells c t (0, 0))) (h2 : c.toList.take L.length = L) (h3 : c.size = p.2 * z) (h4 : p.2 ≤ maxLen) :
    RepC e ⟨L.map .clo, t, some z⟩ p w := ⟨c, L, (0, 0), h1, denL_clo e L, h2, .inr rfl, fun _ => ⟨h3, h4⟩⟩
theorem abLoad_run [Ctxt] {P : Program} (hA : AbOK P) {M M' : Mem} {t : TypeId} {x v : CV} (h : abLoad P M t x = some (v, M')) {e : Env} {w : World} (hR : Rep e M w) {xv : Value} (hx : den e x = some xv) :
    M' = M ∧ ∃ u, den e v = some u ∧ (Instr.loadAt t xv).run P w = .ok u w := by
  unfold abLoad at h
  split at h
  · rename_i i k z off
    obtain ⟨p, ku, m, hp, hk, hm, rfl⟩ := den_pa hx
    split at h
    · cases h
    · rename_i q hq
      obtain ⟨y, ty, z'⟩ := q
      obtain ⟨_, c, c1, c2, c3, c4⟩ := abAt_rep hR hq hp
      split at h
      · cases h
      · rename_i d hu
        split at h
        · cases h
        · rename_i inf hi
          split at h
          · cases h
          · rename_i l hl
            rcases beq_cases z z' with ⟨h1, h2⟩ | ⟨h1, _⟩
            · rw [h1, cond_true] at h
              subst h2
              obtain ⟨m', xs, hm', hd, hxs, hlen⟩ := hA.2.1 _ _ _ _ _ _ hl e ku hk
              rw [hm] at hm'; cases hm'
              have hr := rows_of (e := e) c1 c2 c3 c4
              have hra : w.rangeAt p.1 (m * z + off) xs := by
                obtain ⟨ys, g1, g2, g3⟩ := hr.range (m * z + off) inf.size (by
                  simp only [List.length_take, List.length_drop, List.length_map]
                  rw [hxs, List.length_take, List.length_drop] at hlen
                  exact hlen)
                rw [← List.map_drop, ← List.map_take, denL_clo] at g1
                cases g1
                rw [hxs]
                exact g3
              cases hd' : d.isRow with
              | true =>
                rw [hd'] at h
                simp only [cond_true, Option.some.injEq, Prod.mk.injEq] at h
                obtain ⟨rfl, rfl⟩ := h
                refine ⟨rfl, _, den_mkAgg hd, ?_⟩
                have := run_loadVar_mid (P := P) w p.1 (m * z + off) t xs d hra hu hd' (by simp [hi, hlen])
                simp [Instr.loadAt, Instr.sureAddr, this]
              | false =>
                rw [hd'] at h
                simp only [cond_false] at h
                split at h
                · rename_i l' cv
                  simp only [Option.some.injEq, Prod.mk.injEq] at h
                  obtain ⟨rfl, rfl⟩ := h
                  obtain ⟨u, _, rfl, g1, g2⟩ := denL_cons hd
                  simp [denL] at g2
                  subst g2
                  refine ⟨rfl, u, g1, ?_⟩
                  have hc := hra 0 u (by simp)
                  have := run_loadVar_atom (P := P) w ⟨p.1, m * z + off, none⟩ t d u hu hd' hc
                  simp [Instr.loadAt, Instr.sureAddr, this]
                · cases h
            · rw [h1] at h; cases h
  · cases h
theorem map_clo_splice (A B C : List Value) : A.map CV.clo ++ B.map .clo ++ C.map .clo = (A ++ B ++ C).map .clo := by simp
theorem abStore_run [Ctxt] {P : Program} (hA : AbOK P) {lim : Nat} {M M' : Mem} {t : TypeId} {x y v : CV} (h : abStore P lim M t x y = some (v, M')) {e : Env} {w : World} (hR : Rep e M w) (hpi : Ctxt.pin ≤ lim) {xv yv : Value} (hx : den e x = some xv) (hy : den e y = some yv) :
    v = .clo undef ∧ ∃ w', (Instr.storeAt t xv yv).run P w = .ok () w' ∧ Post lim e M w e M' w' := by
  unfold abStore at h
  split at h
  · rename_i i k z off
    obtain ⟨p, ku, m, hp, hk, hm, rfl⟩ := den_pa hx
    split at h
    · cases h
    · rename_i q hq
      obtain ⟨yy, ty, z'⟩ := q
      obtain ⟨⟨b, hb⟩, c, c1, c2, c3, c4⟩ := abAt_rep hR hq hp
      split at h
      · cases h
      · rename_i inf hi
        cases hc : (Nat.ble lim i && Nat.beq z z' && Nat.beq y.cells.length inf.size && y.cells.all oneCellC) with
        | false => simp only [hc, cond_false] at h; cases h
        | true =>
          simp only [hc, cond_true] at h
          simp only [Bool.and_eq_true] at hc
          obtain ⟨⟨⟨d1, d2⟩, d3⟩, d4⟩ := hc
          have d1 := Nat.le_of_ble_eq_true d1
          have d2 := Nat.eq_of_beq_eq_true d2
          have d3 := Nat.eq_of_beq_eq_true d3
          subst d2
          split at h
          · cases h
          · rename_i y' hy'
            simp only [Option.some.injEq, Prod.mk.injEq] at h
            obtain ⟨rfl, rfl⟩ := h
            have hcells := den_cells hy
            obtain ⟨m', hm', hfit, hlst⟩ := hA.2.2.1 _ _ _ _ _ _ hy' e ku _ hk hcells
            rw [hm] at hm'; cases hm'
            have hone := oneCellL_den d4 hcells
            have hlc := denL_length hcells
            have hle : (Ctxt.ab.lst yy).length ≤ c.size := by
              have := congrArg List.length c2
              simp at this; omega
            have hrun := run_storeCells_at P p.1 (m * z + off) ty yv.cells.toList 0 c w c1 (by omega) hone
            simp only [Nat.add_zero] at hrun
            refine ⟨rfl, w.setRow p.1 ((c.toList.take (m * z + off) ++ yv.cells.toList ++ c.toList.drop (m * z + off + yv.cells.toList.length)).toArray), ?_, post_set hR hpi d1 hb hp (ab_of (ty := 0) (setRow_heap w p.1 c _ ty _ c1) ?_ ?_ c4) (by simp [World.setRow]) (fun k hk => setRow_other w p.1 k _ hk) rfl rfl rfl⟩
            · have hsz : yv.cells.size = inf.size := by simp at hlc; omega
              simp [Instr.storeAt, Instr.sureAddr, storeVar, sizeOf, typeInfo, hi, hsz, hrun]
            · have hlen : (Ctxt.ab.lst y').length = (Ctxt.ab.lst yy).length := by rw [hlst]; simp; simp at hfit; omega
              rw [hlen, hlst, take_splice c.toList yv.cells.toList (m * z + off) (Ctxt.ab.lst yy).length (by omega) (by simpa using hle), c2]
            · have hlen2 : (List.take (m * z + off) c.toList ++ yv.cells.toList ++ List.drop (m * z + off + yv.cells.toList.length) c.toList).length = c.size := by simp; simp at hfit; omega
              simp only [List.size_toArray, hlen2]; exact c3
  · cases h
theorem abField_run [Ctxt] {P : Program} {s : TypeId} {f : Nat} {x v : CV} (h : abField P s f x = some v) {e : Env} {xv : Value} (hx : den e x = some xv) (w : World) :
    ∃ u, den e v = some u ∧ (Instr.fieldAt s xv f).run P w = .ok u w := by
  unfold abField at h
  split at h
  · rename_i i k z off
    obtain ⟨p, ku, m, hp, hk, hm, rfl⟩ := den_pa hx
    split at h
    · rename_i fields hu
      split at h
      · cases h
      · rename_i fd hf
        split at h
        · cases h
        · rename_i inf hi
          rcases beq_cases inf.size 0 with ⟨h1, h2⟩ | ⟨h1, h2⟩
          · rw [h1] at h; cases h
          · rw [h1] at h
            simp at h; subst h
            refine ⟨_, by simp [den, hp, hk, hm]; rfl, ?_⟩
            simp [Instr.fieldAt, run_underlying hu, hf, Instr.sureAddr, fieldPlace, sizeOf, typeInfo, hi, h2, Addr.add_mid, Nat.add_assoc]
    · cases h
  · cases h
theorem abIndex_run [Ctxt] {P : Program} (hA : AbOK P) {t : TypeId} {x k v : CV} (h : abIndex P t x k = some v) {e : Env} {xv kv : Value} (hx : den e x = some xv) (hk : den e k = some kv) (w : World) :
    ∃ u, den e v = some u ∧ (Instr.indexAt t xv kv).run P w = .ok u w := by
  unfold abIndex at h
  split at h
  · rename_i i n
    obtain ⟨p, N, hp, hN, rfl⟩ := den_as hx
    split at h
    · rename_i elem hu
      split at h
      · cases h
      · rename_i inf hi
        cases hc : Ctxt.ab.ix n k with
        | false => rw [hc] at h; cases h
        | true =>
          rw [hc] at h; simp at h; subst h
          obtain ⟨m, N', g1, g2, g3⟩ := hA.1 n k hc e kv hk
          rw [hN] at g2; cases g2
          refine ⟨_, by simp [den, hp, hk, g1]; rfl, ?_⟩
          rw [asN_some g1]
          have i1 : (0 : Int) ≤ (m : Int) := by omega
          have i2 : (m : Int) < (N : Int) := by omega
          simp [Instr.indexAt, asIntOf, run_underlying hu, i1, g3, sizeOf, typeInfo, hi, Addr.add_mid]
    · cases h
  · cases h
theorem abAppN_run [Ctxt] {P : Program} (hA : AbOK P) {lim : Nat} {M M' : Mem} {t u : TypeId} {i : Nat} {n : Tm} {src : Nat → Option (List CV)} {m : Nat} {v : CV} (h : abAppN P lim M t u i n src m = some (v, M')) {e : Env} {w : World} (hR : Rep e M w) (hl : Ctxt.pin ≤ lim ∧ lim ≤ M.next) (hn : ∀ i, M.next ≤ i → i < M'.next → e i = none)
    {sv xv : Value} (hs : den e (.as i n) = some sv) (ty : TypeId) (hlenX : (Builtin.lenOf xv).run P w = .ok m w)
    (hsrc : ∀ size news, src (m * size) = some news → ∃ ys, denL e news = some ys ∧ ys.length = m * size ∧ ∀ w2 : World, w2.heap = w.heap → (Builtin.firstCells size m xv).run P w2 = .ok ys.toArray w2) :
    ∃ e' w' r, den e' v = some r ∧ (Builtin.append_ #[t, u] ty #[sv, xv]).run P w = .ok r w' ∧ Post lim e M w e' M' w' := by
  unfold abAppN at h
  obtain ⟨p, N, hp, hN, rfl⟩ := den_as hs
  split at h
  · rename_i elem hu
    split at h
    · cases h
    · rename_i inf hi
      split at h
      · cases h
      · rename_i zv hz
        split at h
        · cases h
        · rename_i q hq
          obtain ⟨y, ty', z'⟩ := q
          split at h
          · cases h
          · rename_i news hnews
            cases hc : (Nat.beq t u && Nat.beq ty' elem && Nat.beq z' inf.size && Nat.beq zv.cells.size inf.size && Nat.blt 0 inf.size && Nat.ble lim i && Nat.ble inf.bytes 1000000 && news.all oneCellC) with
            | false => simp only [hc, cond_false] at h; cases h
            | true =>
              simp only [hc, cond_true] at h
              simp only [Bool.and_eq_true] at hc
              obtain ⟨⟨⟨⟨⟨⟨⟨d1, d2⟩, d3⟩, d4⟩, d5⟩, d7⟩, d8⟩, d9⟩ := hc
              have d1 := Nat.eq_of_beq_eq_true d1
              have d2 := Nat.eq_of_beq_eq_true d2
              have d3 := Nat.eq_of_beq_eq_true d3
              have d4 := Nat.eq_of_beq_eq_true d4
              have d5 : 0 < inf.size := Nat.le_of_ble_eq_true d5
              have d7 := Nat.le_of_ble_eq_true d7
              have d8 := Nat.le_of_ble_eq_true d8
              subst d1; subst d2; subst d3
              split at h
              · cases h
              · rename_i r hr
                obtain ⟨y', n'⟩ := r
                simp only [Option.some.injEq, Prod.mk.injEq] at h
                obtain ⟨rfl, rfl⟩ := h
                obtain ⟨⟨b, hb⟩, c, c1, c2, c3, c4⟩ := abAt_rep hR hq hp
                obtain ⟨ys, hys, hyl, hfirst⟩ := hsrc _ _ hnews
                obtain ⟨N', m', g1, g2, g3, g4, g5, g6⟩ := hA.2.2.2.1 _ _ _ _ _ _ hr e ys hys
                rw [hN] at g1; cases g1
                have hm' : m' = m := by
                  rw [hyl] at g3
                  exact (Nat.eq_of_mul_eq_mul_right d5 g3).symm
                subst hm'
                have hy1 := oneCellL_den d9 hys
                have hnx : e M.next = none := hn M.next (Nat.le_refl _) (by simp [Mem.push, Mem.keep])
                have hle : (Ctxt.ab.lst y).length ≤ c.size := by
                  have := congrArg List.length c2
                  simp at this; omega
                have hxc : ∀ k v, (Ctxt.ab.lst y)[k]? = some v → w.cell? ((⟨p.1, 0, none⟩ : Addr).add k) = some v := fun k v hv => by
                  have hr := rows_of (e := e) c1 c2 c3 c4
                  obtain ⟨c', vs, fz, f1, f2, f3, f4, f5, _⟩ := hr.cells
                  rw [denL_clo] at f2; cases f2
                  have hk : k < (Ctxt.ab.lst y).length := by
                    rcases Nat.lt_or_ge k (Ctxt.ab.lst y).length with h | h
                    · exact h
                    · rw [List.getElem?_eq_none h] at hv; cases hv
                  rw [Addr.add_mid, Nat.zero_add, f5 k hk]
                  exact hv
                have d10 : ((N + m' : Nat) : Int) ≤ 9223372036854775807 := by omega
                have hbytes : (N + m') * inf.bytes ≤ 140737488355328 := Nat.le_trans (Nat.mul_le_mul g6 d8) (by decide)
                have hux : P.underlying t = some (.slice ty') ∨ P.underlying t = some .string := .inl hu
                have hL : Ctxt.ab.lst y' = Ctxt.ab.lst y ++ ys := g4
                have hLl : (Ctxt.ab.lst y ++ ys).length = (N + m') * inf.size := by rw [List.length_append, g2, hyl, Nat.add_mul]
                rcases Nat.lt_or_ge p.2 (N + m') with hlt | hge
                · have hrun := run_app_grow (P := P) w t t ty ty' inf zv hu hux hi hz ⟨p.1, 0, none⟩ N p.2 (Ctxt.ab.lst y) g2 hxc _ m' ys hlenX (hfirst w.drew rfl) hlt d10 (growslice_fits hlt hbytes)
                  have cap1 := grownCap_ge w (N + m') p.2 ty'
                  have cap2 := grownCap_le_maxLen w (N + m') p.2 ty' (by simp only [maxLen]; omega)
                  generalize grownCap w (N + m') p.2 ty' = cap at hrun cap1 cap2
                  have hpost := post_newB (lim := lim) (w1 := w.drew) (hR.keep fun k => !Nat.beq k i) hl hnx ⟨[.ab y' ty' inf.size], 0, some 0⟩ (.cells ((Ctxt.ab.lst y).toArray ++ ys.toArray ++ Builtin.zeroCells zv.cells (cap - (N + m'))) ty') cap (fun _ hnew => ab_of hnew (by
                      rw [hL]
                      have : ((Ctxt.ab.lst y).toArray ++ ys.toArray ++ Builtin.zeroCells zv.cells (cap - (N + m'))).toList = (Ctxt.ab.lst y ++ ys) ++ (Builtin.zeroCells zv.cells (cap - (N + m'))).toList := by simp
                      rw [this]
                      exact List.take_left) (by
                    have := grown_size zv inf.size (N + m') cap d4 (Ctxt.ab.lst y ++ ys) hLl cap1
                    rw [← this]
                    simp) cap2) rfl rfl rfl rfl
                  refine ⟨e.upd M.next (w.heap.size, cap), _, _, ?_, hrun, ?_⟩
                  · simp [den, Env.upd, g5]
                  · have hp0 := (Post.refl (lim := lim) hR).keep (fun k => !Nat.beq k i) (fun k hk => by
                      rcases beq_cases k i with ⟨h1, h2⟩ | ⟨h1, h2⟩
                      · omega
                      · simp [h1])
                    exact hp0.trans hpost
                · have hfit : N * inf.size + ys.length ≤ c.size := by rw [hyl, ← Nat.add_mul, c3]; exact Nat.mul_le_mul_right _ hge
                  have hrun := run_app_room (P := P) w t t ty ty' inf hu hux hi p.1 N p.2 c c1 _ m' ys hlenX (hfirst w rfl) hy1 hge hfit
                  have htk : c.toList.take (N * inf.size) = Ctxt.ab.lst y := by rw [← g2]; exact c2
                  rw [htk] at hrun
                  refine ⟨e.upd M.next p, _, _, ?_, hrun, post_renameB hR hl.1 d7 hb hp hnx ⟨[.ab y' ty' inf.size], 0, some 0⟩ (fun _ => ab_of (setRow_heap w p.1 c _ ty' _ c1) ?_ ?_ c4) (by simp [World.setRow]) (fun k hk => setRow_other w p.1 k _ hk) rfl rfl rfl⟩
                  · simp [den, Env.upd, g5]
                  · rw [hL]
                    exact List.take_left
                  · have : (Ctxt.ab.lst y ++ ys ++ c.toList.drop (N * inf.size + ys.length)).length = c.size := by simp; omega
                    simp only [List.size_toArray, this]; exact c3
  · cases h
theorem abApp_run [Ctxt] {P : Program} (hA : AbOK P) {lim : Nat} {M M' : Mem} {t u : TypeId} {s x v : CV} (h : abApp P lim M t u s x = some (v, M')) {e : Env} {w : World} (hR : Rep e M w) (hl : Ctxt.pin ≤ lim ∧ lim ≤ M.next) (hn : ∀ i, M.next ≤ i → i < M'.next → e i = none)
    {sv xv : Value} (hs : den e s = some sv) (hx : den e x = some xv) (ty : TypeId) :
    ∃ e' w' r, den e' v = some r ∧ (Builtin.append_ #[t, u] ty #[sv, xv]).run P w = .ok r w' ∧ Post lim e M w e' M' w' := by
  unfold abApp at h
  split at h
  · rename_i i n j offj m cj sj
    obtain ⟨pj, hpj, rfl⟩ := den_sl hx
    refine abAppN_run hA h hR hl hn hs ty (by simp [Builtin.lenOf]) fun size news hnews => ?_
    obtain ⟨ys, hys, hyl, hyc⟩ := evalRange_run hnews hR hpj
    exact ⟨ys, hys, hyl, fun w2 hw2 => run_firstCells_some (P := P) w2 size m ⟨pj.1, offj, none⟩ m _ ys hyl (fun k v hv => by
      have := hyc k v hv
      unfold World.cell? at this ⊢
      rw [hw2]; exact this)⟩
  · rename_i i n c0
    have hx : some (Value.slice none 0 c0) = some xv := hx
    cases hx
    refine abAppN_run hA h hR hl hn hs ty (by simp [Builtin.lenOf]) fun size news hnews => ?_
    cases hnews
    exact ⟨[], rfl, by simp, fun w2 hw2 => by simp [Builtin.firstCells]⟩
  · cases h
theorem abMake_run [Ctxt] {P : Program} (hA : AbOK P) {lim : Nat} {M M' : Mem} {t : TypeId} {l c v : CV} (h : abMake P M t l c = some (v, M')) {e : Env} {w : World} (hR : Rep e M w) (hl : Ctxt.pin ≤ lim ∧ lim ≤ M.next) (hn : ∀ i, M.next ≤ i → i < M'.next → e i = none)
    {lv cv : Value} (h1 : den e l = some lv) (h2 : den e c = some cv) : ∃ e' w' u, den e' v = some u ∧ (Instr.makeSlice t lv cv).run P w = .ok u w' ∧ Post lim e M w e' M' w' := by
  unfold abMake at h
  split at h
  · rename_i i j
    split at h
    · rename_i elem hu
      split at h
      · cases h
      · rename_i inf hi
        split at h
        · cases h
        · rename_i zv hz
          split at h
          · cases h
          · rename_i r hr
            obtain ⟨y, n⟩ := r
            cases hc : (eqTm i j && Nat.beq zv.cells.size inf.size && Nat.ble inf.bytes 1000000) with
            | false => simp only [hc, cond_false] at h; cases h
            | true =>
              simp only [hc, cond_true, Option.some.injEq, Prod.mk.injEq] at h
              obtain ⟨rfl, rfl⟩ := h
              simp only [Bool.and_eq_true] at hc
              obtain ⟨⟨c1, c2⟩, c3⟩ := hc
              have c1 := eqTm_eq c1
              have c2 := Nat.eq_of_beq_eq_true c2
              have c3 := Nat.le_of_ble_eq_true c3
              subst c1
              rw [h1] at h2; cases h2
              obtain ⟨m, g1, g2, g3, g4⟩ := hA.2.2.2.2 _ _ _ _ hr e lv h1
              have g4 := g4 inf zv hi hz
              rw [asN_some g1]
              have hb : (inf.bytes : Int) * (m : Int) ≤ 281474976710656 := by
                have : inf.bytes * m ≤ 1000000 * 1000000 := Nat.mul_le_mul c3 g3
                have : ((inf.bytes * m : Nat) : Int) ≤ 1000000000000 := by omega
                rw [Int.natCast_mul] at this
                omega
              have hrun := run_make (P := P) w t elem inf zv hu hi hz .i64 .i64 (m : Int) (m : Int) (by omega) (Int.le_refl _) hb (by omega)
              have hml := madeCells_list zv.cells (m * inf.size)
              have hnx : e M.next = none := hn M.next (Nat.le_refl _) (by simp [Mem.push])
              simp only [Int.toNat_natCast] at hrun
              refine ⟨e.upd M.next (w.heap.size, m), _, _, ?_, hrun, post_newB (w1 := w) hR hl hnx ⟨[.ab y elem inf.size], 0, some 0⟩ _ m (fun _ hnew => ab_of hnew ?_ ?_ (by simp only [maxLen]; omega)) rfl rfl rfl rfl⟩
              · simp [den, Env.upd, g2]
              · rw [g4, hml, List.take_length]
              · show (madeCells zv.cells (m * inf.size)).size = m * inf.size
                rw [← Array.length_toList, hml]
                simp [cellsOfRange]
    · cases h
  · cases h
theorem abLen_run [Ctxt] {P : Program} {t : TypeId} {x v : CV} (h : abLen P t x = some v) {e : Env} {xv : Value} (hx : den e x = some xv) : ∃ (a : Option Addr) (n c : Nat) (el : TypeId), xv = .slice a n c ∧ P.underlying t = some (.slice el) ∧ den e v = some (.int .i64 (n : Int)) := by
  unfold abLen at h
  split at h
  · rename_i i n
    obtain ⟨p, N, hp, hN, rfl⟩ := den_as hx
    split at h
    · rename_i el hu
      simp at h; subst h
      exact ⟨_, _, _, el, rfl, hu, by simp [den, asN_some hN]⟩
    · cases h
  · cases h

theorem evalAbs_ok [Ctxt] {P : Program} (hA : AbOK P) {lim : Nat} {T : Fr} {M M' : Mem} {o : Oper} {v : CV} (h : evalAbs P lim T M o.op = some (v, M')) {e : Env} {w : World} {a : Act}
    (hT : DT e T a) (hR : Rep e M w) (hl : Ctxt.pin ≤ lim ∧ lim ≤ M.next) (hn : ∀ i, M.next ≤ i → i < M'.next → e i = none) : OpOK P o lim e M w a v M' := by
  obtain ⟨dst, op, type, pos, after, guard⟩ := o
  simp only at h
  unfold evalAbs at h
  split at h
  · rename_i t x
    obtain ⟨rfl, u, hu, hr⟩ := abLoad_run hA h hR (den_opd hT x)
    exact .of_run (u := u) (w' := w) (by simp [execOp, hr]) hu (.refl hR)
  · rename_i t x y
    obtain ⟨rfl, w', hr, hp⟩ := abStore_run hA h hR hl.1 (den_opd hT x) (den_opd hT y)
    exact .of_skip (w' := w') (by simp [execOp, hr]) hp
  · rename_i s x f
    obtain ⟨hu, rfl⟩ := withM_some h
    obtain ⟨y, hy, hr⟩ := abField_run hu (den_opd hT x) w
    exact .of_run (u := y) (w' := w) (by simp [execOp, hr]) hy (.refl hR)
  · rename_i t x k
    obtain ⟨hu, rfl⟩ := withM_some h
    obtain ⟨y, hy, hr⟩ := abIndex_run hA hu (den_opd hT x) (den_opd hT k) w
    exact .of_run (u := y) (w' := w) (by simp [execOp, hr]) hy (.refl hR)
  · rename_i t l c
    obtain ⟨e', w', u, hu, hr, hp⟩ := abMake_run hA h hR hl hn (den_opd hT l) (den_opd hT c)
    exact .of_run (u := u) (w' := w') (by simp [execOp, hr]) hu hp
  · rename_i c
    obtain ⟨cal, args, tys⟩ := c
    simp only at h
    split at h
    · split at h
      · rename_i t x ht hx
        obtain ⟨hu, rfl⟩ := withM_some h
        obtain ⟨ad, n, c, el, h1, h2, h3⟩ := abLen_run hu (den_opd hT x)
        have e1 : args = #[x] := by apply Array.ext'; simpa using hx
        have e2 : tys = #[t] := by apply Array.ext'; simpa using ht
        exact .of_run (u := .int .i64 n) (w' := w) (by simp [execOp, resolve, e1, e2, invoke, builtin, Builtin.len_, h1, run_underlying h2, goInt]) h3 (.refl hR)
      · cases h
    · split at h
      · rename_i t u s x ht hx
        obtain ⟨e', w', r, g1, g2, g3⟩ := abApp_run hA h hR hl hn (den_opd hT s) (den_opd hT x) type
        have e1 : args = #[s, x] := by apply Array.ext'; simpa using hx
        have e2 : tys = #[t, u] := by apply Array.ext'; simpa using ht
        exact .of_run (u := r) (w' := w') (by simp [execOp, resolve, e1, e2, invoke, builtin, g2]) g1 g3
      · cases h
    · cases h
  · cases h
theorem abLoad_next [Ctxt] {P : Program} {M M' : Mem} {t : TypeId} {x v : CV} (h : abLoad P M t x = some (v, M')) : M' = M := by
  unfold abLoad at h
  repeat' split at h
  all_goals first | (cases h; done) | skip
  all_goals
    revert h
    cases Nat.beq _ _ <;> cases TypeDesc.isRow _ <;> simp only [cond_true, cond_false] <;> intro h <;> first | (cases h; done) | (simp at h; exact h.2.symm)
theorem abStore_next [Ctxt] {P : Program} {lim : Nat} {M M' : Mem} {t : TypeId} {x y v : CV} (h : abStore P lim M t x y = some (v, M')) : M.next ≤ M'.next := by
  unfold abStore at h
  repeat' split at h
  all_goals first | (cases h; done) | skip
  all_goals
    revert h
    cases (Nat.ble _ _ && Nat.beq _ _ && Nat.beq _ _ && List.all _ _) <;> simp only [cond_true, cond_false] <;> intro h <;> first | (cases h; done) | (simp at h; rw [← h.2]; exact Nat.le_refl _)
theorem abAppN_next [Ctxt] {P : Program} {lim : Nat} {M M' : Mem} {t u : TypeId} {i : Nat} {n : Tm} {src : Nat → Option (List CV)} {m : Nat} {v : CV} (h : abAppN P lim M t u i n src m = some (v, M')) : M.next ≤ M'.next := by
  unfold abAppN at h
  repeat' split at h
  all_goals first | (cases h; done) | skip
  all_goals
    revert h
    cases (Nat.beq _ _ && Nat.beq _ _ && Nat.beq _ _ && Nat.beq _ _ && Nat.blt _ _ && Nat.ble _ _ && Nat.ble _ _ && List.all _ _) <;> simp only [cond_true, cond_false] <;> intro h <;> first | (cases h; done) | (simp at h; rw [← h.2]; simp [Mem.push, Mem.keep])
theorem abApp_next [Ctxt] {P : Program} {lim : Nat} {M M' : Mem} {t u : TypeId} {s x v : CV} (h : abApp P lim M t u s x = some (v, M')) : M.next ≤ M'.next := by
  unfold abApp at h
  split at h
  · exact abAppN_next h
  · exact abAppN_next h
  · cases h
theorem abMake_next [Ctxt] {P : Program} {M M' : Mem} {t : TypeId} {l c v : CV} (h : abMake P M t l c = some (v, M')) : M.next ≤ M'.next := by
  unfold abMake at h
  repeat' split at h
  all_goals first | (cases h; done) | skip
  all_goals
    revert h
    cases (eqTm _ _ && Nat.beq _ _ && Nat.ble _ _) <;> simp only [cond_true, cond_false] <;> intro h <;> first | (cases h; done) | (simp at h; rw [← h.2]; simp [Mem.push])
theorem evalAbs_next [Ctxt] {P : Program} {lim : Nat} {T : Fr} {M M' : Mem} {op : Op} {v : CV} (h : evalAbs P lim T M op = some (v, M')) : M.next ≤ M'.next := by
  unfold evalAbs at h
  split at h
  · rw [abLoad_next h]; exact Nat.le_refl _
  · exact abStore_next h
  · rw [(withM_some h).2]; exact Nat.le_refl _
  · rw [(withM_some h).2]; exact Nat.le_refl _
  · exact abMake_next h
  · split at h
    · split at h
      · rw [(withM_some h).2]; exact Nat.le_refl _
      · cases h
    · split at h
      · exact abApp_next h
      · cases h
    · cases h
  · cases h
theorem evalAbs_congr [Ctxt] (P : Program) (lim : Nat) {T T' : Fr} (M : Mem) (op : Op) (h : ∀ x ∈ op.operands.toList, opd T x = opd T' x) : evalAbs P lim T M op = evalAbs P lim T' M op := by
  cases op with
  | load t x => simp only [evalAbs, h x (by simp [Op.operands])]
  | store t x y => simp only [evalAbs, h x (by simp [Op.operands]), h y (by simp [Op.operands])]
  | fieldAddr s x f => simp only [evalAbs, h x (by simp [Op.operands])]
  | indexAddr t x k => simp only [evalAbs, h x (by simp [Op.operands]), h k (by simp [Op.operands])]
  | makeSlice t l c => simp only [evalAbs, h l (by simp [Op.operands]), h c (by simp [Op.operands])]
  | call c =>
    obtain ⟨cal, args, tys⟩ := c
    have ha : ∀ b, cal = .builtin b → ∀ x ∈ args.toList, opd T x = opd T' x := fun b hb x hx => h x (by subst hb; simpa [Op.operands, Call.operands] using hx)
    simp only [evalAbs]
    split
    · have ha := ha _ rfl
      split
      · rename_i t x ht hx
        rw [ha x (by rw [hx]; simp)]
      · rfl
    · have ha := ha _ rfl
      split
      · rename_i t u s x ht hx
        rw [ha s (by rw [hx]; simp), ha x (by rw [hx]; simp)]
      · rfl
    · rfl
  | _ => rfl
end Go.Ev
