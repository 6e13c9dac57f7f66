/- Layer 9 (lexer): what the rows list makes the world that the lexer wants; tokens as arguments. -/
import Derived.Test.YtcbphahdodjbiaaDoorLyB
import Derived.Test.YtcbphahdodjbiaaDoorTbL
import Derived.Stop.LaidErr
import Derived.Lib.LaidTab
namespace Go.Proofs.YtcbphahdodjbiaaDoor
open Go.ChangeShapes Go.WideShapes Go.ChangeAt Go.RowKit Go.Joins Go.Ev

theorem laid_pow : (Rows.laid_internal_strconv_uint64pow10 : DataW Unit) = Lib.tabData .u64 pow10 := by kernel_rfl
theorem laidVars_tab {P : Program} {W : World} {name : String} {k : IntKind} {zs : List Int} {g : Nat} {t e : TypeId} {n : Nat}
    (hg : P.globalNamed name = some g) (hty : (P.globals[g]?).map (·.type) = some t) (ht : P.underlying t = some (.array n e)) (he : P.underlying e = some (.int k)) (hce : P.cellsOf e = 1) (hct : P.cellsOf t = n) (hz : 0 < zs.length) :
    ∀ {laid : List (String × DataW Unit)} {ps : List MemPlace}, DataW.LaidVars P W laid ps → (name, Lib.tabData k zs) ∈ laid → Lib.TabIs P W name k zs ∧ MemPlace.cell g 0 ∈ ps
  | [], ps, h, hm => by cases hm
  | (nm, d) :: r, ps, h, hm => by
    obtain ⟨g', t', cs, fuel, p, q, hg', ht', hvar, hd, hr, hps⟩ := h
    rcases List.mem_cons.1 hm with hm | hm
    · cases hm
      obtain rfl := Option.some.inj (hg.symm.trans hg')
      obtain rfl := Option.some.inj (hty.symm.trans ht')
      have hc := Lib.cells_of_tab ht he hce hct hd
      refine ⟨by unfold Lib.TabIs; rw [hvar, ← hc], ?_⟩
      have hs : 0 < cs.size := by
        have := congrArg List.length hc
        simp at this; omega
      rw [hps]
      exact List.mem_append_left _ (List.mem_append_left _ (List.mem_map.2 ⟨0, by simpa using hs, by simp⟩))
    · obtain ⟨h1, h2⟩ := laidVars_tab hg hty ht he hce hct hz hr hm
      exact ⟨h1, by rw [hps]; exact List.mem_append_right _ h2⟩
theorem pow_of_met {W : World} {laid : List (String × DataW Unit)} (h : laidMet Tryd.prog laid W) (hm : ("internal/strconv.uint64pow10", Lib.tabData .u64 pow10) ∈ laid) {t e : TypeId} {n : Nat}
    (hty : (Tryd.prog.globals[gTab]?).map (·.type) = some t) (ht : Tryd.prog.underlying t = some (.array n e)) (he : Tryd.prog.underlying e = some (.int .u64)) (hce : Tryd.prog.cellsOf e = 1) (hct : Tryd.prog.cellsOf t = n) : ∃ ty, W.heap[gTab]? = some (.cells powV.toArray ty (0, 0)) := by
  obtain ⟨ps, hL, _, hp⟩ := h
  have hgn : Tryd.prog.globalNamed "internal/strconv.uint64pow10" = some gTab := by kernel_rfl
  obtain ⟨h1, h2⟩ := laidVars_tab hgn hty ht he hce hct (by decide) hL hm
  obtain ⟨⟨c, ty, hc⟩, _⟩ := hp _ _ h2
  refine ⟨ty, ?_⟩
  unfold Lib.TabIs World.var? at h1
  rw [hgn] at h1
  simp only [Option.bind_some, hc, Option.some.injEq] at h1
  rw [hc, h1]
  rfl
theorem starRow : "*" ++ "errors.errorString" = "*errors.errorString" := by decide
theorem errRow (u : TypeId) (h : Tryd.prog.typeName? 3 u = some "*errors.errorString") : u = 90 :=
  typeName_ptr_named (nm := "errors.errorString") (by rw [starRow]; kernel_rfl) (by kernel_rfl) (by decide) u (by rw [starRow]; exact h)
theorem gSyntax : Tryd.prog.globalNamed "strconv.ErrSyntax" = some 2 := by kernel_rfl
theorem gRange : Tryd.prog.globalNamed "strconv.ErrRange" = some 3 := by kernel_rfl
theorem cell_lt {w : World} {g : Nat} {v : Value} (h : w.cell? ⟨g, 0, none⟩ = some v) : g < w.heap.size := by
  rcases Nat.lt_or_ge g w.heap.size with h' | h'
  · exact h'
  · simp [World.cell?, Array.getElem?_eq_none h'] at h
theorem lxW_of {W : World} (h : laidMet Tryd.prog [("math/bits.deBruijn32tab", Rows.laid_math_bits_deBruijn32tab), ("math/bits.deBruijn64tab", Rows.laid_math_bits_deBruijn64tab), ("internal/strconv.uint64pow10", Rows.laid_internal_strconv_uint64pow10), ("strconv.ErrRange", Rows.laid_strconv_ErrRange), ("strconv.ErrSyntax", Rows.laid_strconv_ErrSyntax)] W)
    (hs : W.ShapedOpen Tryd.prog) : LxW W := by
  have h1 : ∃ ty, W.heap[gTab]? = some (.cells powV.toArray ty (0, 0)) := pow_of_met h (by rw [laid_pow]; simp) (show (Tryd.prog.globals[gTab]?).map (·.type) = some 78 by kernel_rfl) (show Tryd.prog.underlying 78 = some (.array 20 64) by kernel_rfl) (by kernel_rfl) (by kernel_rfl) (by kernel_rfl)
  have h2 : ∃ m, W.cell? ⟨gLen, 0, none⟩ = some (.int .i64 m) := Tryd.laysCut.s1_3 W hs
  have h3 : ∃ ev, W.cell? ⟨gSyn, 0, none⟩ = some ev ∧ (ev = .nilIface ∨ ∃ te pe, ev = .iface te pe) := by
    obtain ⟨a, _, hv, _⟩ := laid_sentinel h.tail.tail.tail.tail gSyntax (show (Tryd.prog.globals[2]?).map (·.type) = some 50 by kernel_rfl) Tryd.underlying50 errRow Tryd.underlying90 Tryd.underlying92 rfl rfl Tryd.underlying9 (by kernel_rfl) (by kernel_rfl)
    exact ⟨_, by simpa using World.var?_cell gSyntax hv 0, .inr ⟨_, _, rfl⟩⟩
  have h4 : ∃ ev, W.cell? ⟨gRng, 0, none⟩ = some ev ∧ (ev = .nilIface ∨ ∃ te pe, ev = .iface te pe) := by
    obtain ⟨a, _, hv, _⟩ := laid_sentinel h.tail.tail.tail gRange (show (Tryd.prog.globals[3]?).map (·.type) = some 50 by kernel_rfl) Tryd.underlying50 errRow Tryd.underlying90 Tryd.underlying92 rfl rfl Tryd.underlying9 (by kernel_rfl) (by kernel_rfl)
    exact ⟨_, by simpa using World.var?_cell gRange hv 0, .inr ⟨_, _, rfl⟩⟩
  refine ⟨?_, h1, h2, h3, h4⟩
  obtain ⟨_, h1⟩ := h1
  obtain ⟨_, h2⟩ := h2
  obtain ⟨_, h3, _⟩ := h3
  obtain ⟨_, h4, _⟩ := h4
  have k1 := (Array.getElem?_eq_some_iff.1 h1).1
  have k2 := cell_lt h2
  have k3 := cell_lt h3
  have k4 := cell_lt h4
  unfold gTop
  omega
/-- A token that the law is given. -/
theorem tok_open {H : Type} {enc : TypeId × Value → H} {W : World} {r : Reach} {b0 : Nat} {v : Value} {d : DataW H} {p : List MemPlace} (hv : Value.okWide Tryd.prog W r b0 23 v) (h : DataW.Trod enc Tryd.prog W 0 (fun _ => true) true 23 v d p) :
    ∃ (k : Int) (t : List UInt8) (n a : Int), v = .agg #[.int .i64 k, .string ⟨t.toArray⟩, .int .i64 n, .int .i64 a] ∧ In64 n ∧ p = [] ∧ ∀ (W' : World) (sp : Nat → Bool), DataW.Trod enc Tryd.prog W' 0 sp true 23 v d [] := by
  have hC : Tryd.prog.cellsOf 23 = 4 := by kernel_rfl
  obtain ⟨v0, v1, v2, v3, y0, y1, y2, y3, m, rfl, rfl, rfl, h0, h1, h2, h3⟩ := open_agg4 Tryd.underlying23 (by kernel_rfl) hC hv h
  obtain ⟨k, e0, rfl, r0⟩ := DataW.trod_int Tryd.underlying3 h0
  obtain ⟨s, e1, rfl, r1⟩ := DataW.trod_string Tryd.underlying9 h1
  obtain ⟨n, e2, rfl, r2⟩ := DataW.trod_int Tryd.underlying2 h2
  obtain ⟨a, e3, rfl, r3⟩ := DataW.trod_int Tryd.underlying3 h3
  cases e0
  cases e1
  cases e2
  cases e3
  refine ⟨k, s.data.toList, n, a, ?_, ?_, rfl, fun W' sp => ?_⟩
  · rw [show (⟨s.data.toList.toArray⟩ : ByteArray) = s from ByteArray.ext (by simp)]
  · have r2' : IntKind.i64.min ≤ n ∧ n ≤ 9223372036854775807 := by simpa [Lit.wf] using r2
    exact ⟨r2'.1, r2'.2⟩
  · have := shut_agg4 (enc := enc) (P := Tryd.prog) (w := W') (base := 0) (spare := sp) (held := true) Tryd.underlying23 (by kernel_rfl) hC (field_of_Trod (shut_int Tryd.underlying3 r0) rfl) (field_of_Trod (ChangeMaps.shut_string Tryd.underlying9 r1) rfl) (field_of_Trod (shut_int Tryd.underlying2 r2) rfl) (field_of_Trod (shut_int Tryd.underlying3 r3) rfl)
    simpa using this
end Go.Proofs.YtcbphahdodjbiaaDoor
