/- For all fractions and texts, Text of package fraction returns the text of a fraction, from which Parse returns it, and Parse accepts exactly the texts, as the reference does; with no conditions. -/
import Derived.Test.YtdjnnbjpaohaiaaDoorTbF
import Derived.Test.YtdjnnbjpaohaiaaDoorTxF
import Derived.Test.YtdjnnbjpaohaiaaDoorEvV
import Derived.Stop.LaidErr
namespace Go.Proofs.YtdjnnbjpaohaiaaDoor.fractionTextsDone
open Go.ChangeShapes Go.WideShapes Go.ChangeAt Go.RowKit Go.Joins Go.Ev

abbrev frS : Sh := .agg [.i64, .i64]
theorem in64_of {z : Int} (h : IntKind.i64.wrap z = z) : In64 z := by
  rw [IntKind.wrap_i64] at h
  unfold In64; omega
theorem starRow : "*" ++ "errors.errorString" = "*errors.errorString" := by decide
theorem errRow (u : TypeId) (h : Tryd.prog.typeName? 3 u = some "*errors.errorString") : u = 117 :=
  typeName_ptr_named (nm := "errors.errorString") (by rw [starRow]; kernel_rfl) (by kernel_rfl) (by decide) u (by rw [starRow]; exact h)
theorem gSyntax : Tryd.prog.globalNamed "strconv.ErrSyntax" = some 3 := by kernel_rfl
theorem gRange : Tryd.prog.globalNamed "strconv.ErrRange" = some 4 := by kernel_rfl
theorem txW_of {W : World} (h : laidMet Tryd.prog [("math/bits.deBruijn32tab", Rows.laid_math_bits_deBruijn32tab), ("math/bits.deBruijn64tab", Rows.laid_math_bits_deBruijn64tab), ("internal/strconv.uint64pow10", Rows.laid_internal_strconv_uint64pow10), ("strconv.ErrRange", Rows.laid_strconv_ErrRange), ("strconv.ErrSyntax", Rows.laid_strconv_ErrSyntax)] W)
    (hs : W.ShapedOpen Tryd.prog) : TxW W := by
  refine ⟨hasPow_of_met h, Tryd.laysCut.s1_3 W hs, ?_, ?_⟩
  · obtain ⟨a, _, hv, _⟩ := laid_sentinel h.tail.tail.tail.tail gSyntax (show (Tryd.prog.globals[3]?).map (·.type) = some 68 by kernel_rfl) Tryd.underlying68 errRow Tryd.underlying117 Tryd.underlying119 rfl rfl Tryd.underlying9 (by kernel_rfl) (by kernel_rfl)
    exact ⟨_, by simpa using World.var?_cell gSyntax hv 0, .inr ⟨_, _, rfl⟩⟩
  · obtain ⟨a, _, hv, _⟩ := laid_sentinel h.tail.tail.tail gRange (show (Tryd.prog.globals[4]?).map (·.type) = some 68 by kernel_rfl) Tryd.underlying68 errRow Tryd.underlying117 Tryd.underlying119 rfl rfl Tryd.underlying9 (by kernel_rfl) (by kernel_rfl)
    exact ⟨_, by simpa using World.var?_cell gRange hv 0, .inr ⟨_, _, rfl⟩⟩
set_option maxRecDepth 100000 in
set_option maxHeartbeats 800000 in
theorem contract (H : Type) (enc : TypeId × Value → H) (W : World) (base : Nat) (args : Array Value) (ds gs : List (DataW H)) (before : List MemPlace)
    (hval : ∀ (j : Nat) t v, Tryd.f8.params[j]? = some t → args[j]? = some v → Value.okWide Tryd.prog W .any base t v)
    (hW : DataW.Whole enc Tryd.prog Tryd.f8.params.toList Rows.fractionTextsSpec.vars false W args.toList ds gs before) (hL : laidMetH Tryd.prog Rows.fractionTextsRow.laid W) (hS : W.ShapedOpen Tryd.prog) :
    Calls Tryd.prog 8 args W fun e W' => ∃ v, e = .returned v ∧ Rows.fractionTextsSpec.post enc Tryd.prog Tryd.f8 false true false false W args v W' := by
  have hE : TxW W := txW_of hL hS
  have hW' := hW
  obtain ⟨p, q, hA0, hV, rfl, hfz, hnd⟩ := hW
  have hA : DataW.TrodAll enc Tryd.prog W 0 (fun _ => true) true Tryd.f8.params.toList args.toList ds p := hA0
  rw [Tryd.params8] at hA hval
  obtain ⟨v0, v1, d0, d1, p0, p1, rfl, rfl, rfl, h0, h1⟩ := trodAll_two hA
  obtain ⟨rfl, rfl⟩ := trodVars_none hV
  clear hA0
  simp only [List.append_nil] at hW'
  obtain ⟨a1, rfl, rfl, rfl, w1⟩ := ChangeMaps.open_string Tryd.underlying9 (hval 1 9 v1 rfl rfl) h1
  have hF : DataW.TrodAll enc Tryd.prog W 0 (fun _ => true) true [23] [v0] [d0] p0 := trodAll_mk1 h0
  obtain ⟨zs, hz, hr, rfl⟩ := open_all (P := Tryd.prog) (sh := [frS]) (by kernel_rfl) (fun j t v g1 g2 => by
    cases j with
    | zero => exact hval 0 t v (by simpa using g1) (by simpa using g2)
    | succ j => simp at g1) hF
  obtain ⟨a, b, rfl⟩ := len2 (InRng_length hr)
  obtain ⟨r1, r2, _⟩ := hr
  obtain rfl : v0 = frV a b := (List.cons.inj (show [v0] = [frV a b] from hz)).1
  refine (texts_any a b (in64_of r1) (in64_of r2) a1 w1 W hE).mono fun e W' ⟨he, hb⟩ => ?_
  subst he
  refine ⟨_, rfl, _, _, _, [], [], [], hW', trodAll_mk1 (shut_bool Tryd.underlying4 _), ?_, rfl, hb.frame _, fun h => by cases h⟩
  have hF' := trodAll_below laidOutD hb (by kernel_rfl) rfl hF
  obtain ⟨v, d, e1, e2, hF'⟩ := trodAll_one (args := #[frV a b]) hF'
  cases e1
  cases e2
  exact trodAll_mk2 hF' (ChangeMaps.shut_string Tryd.underlying9 w1)

theorem reads (os : Os) {H : Type} (enc : TypeId × Value → H) : ∃ ds places, DataW.whole enc Tryd.prog ((laidWorld os).forCall (fun _ _ => 0) ⟨#[], #[.agg #[.int .i64 0, .int .i64 0], .string ⟨#[]⟩], []⟩).memory Tryd.f8.params.toList Rows.fractionTextsSpec.vars false (#[.agg #[.int .i64 0, .int .i64 0], .string ⟨#[]⟩] : Array Value).toList 8 = some (ds, [], places) :=
  ⟨[.agg [.lit (.int .i64 0), .lit (.int .i64 0)], .lit (.string [])], [], by kernel_rfl⟩

set_option maxRecDepth 100000 in
theorem lifted (os : Os) (started : os.Started) (H : Type) (enc : TypeId × Value → H) (F : Stop.Interp) :
    ReturnsInHanded {} Tryd.checked os 8 .any ((OpenSpec.ofChange Rows.fractionTextsSpec).preRow enc Tryd.prog Tryd.f8 Rows.fractionTextsRow.domain false Rows.fractionTextsRow.laid) (((OpenSpec.ofChange Rows.fractionTextsSpec).at F).post enc Tryd.prog Tryd.f8 false true false false) := by
  obtain ⟨ds, places, hx⟩ := reads os enc
  refine returnsInHanded_of_row (C := Tryd.checked) (s := OpenSpec.ofChange Rows.fractionTextsSpec) ownD started (by kernel_rfl) Tryd.func8
    (witness_row_at (enc := enc) (C := Tryd.checked) false (laidWorld os) #[.agg #[.int .i64 0, .int .i64 0], .string ⟨#[]⟩] rfl (by kernel_rfl) (by kernel_rfl) (by kernel_rfl)
      (OpenSpec.preRow_of_cond 8 hx (by kernel_rfl) (fun k hk => by cases hk) (by kernel_rfl) (laid_met os _))) ?_
  intro W base args ds gs before hval hW _ _ _ hL hS _
  exact contract H enc W base args ds gs before hval hW hL hS

theorem said : Rows.FractionTextsSaid :=
  OpenClaim.holds_of_cond 8 Tryd.f8 rfl rfl rfl rfl rfl rfl rfl ⟨rfl, rfl, rfl, rfl, rfl⟩ rfl rfl rfl rfl rfl (by kernel_rfl) Tryd.func8 (by kernel_rfl)
    (of_decide_eq_true (by kernel_rfl)) (by unfold Func.isWrapper; first | (rw [if_pos (by decide +kernel)]; kernel_rfl) | (rw [if_neg (by decide +kernel)]; exact ⟨rfl, rfl⟩))
    (fun os started H enc _ F => by rw [OpenClaim.pre_eq_preRow]; exact lifted os started H enc F)

theorem plain (f : FuncId) (fn : Func) (hf : Tryd.pinned.checked.prog.funcNamed "gangsaw/gangsawlaw04.FractionTexts" = some f) (hfn : Tryd.pinned.checked.prog.funcs[f]? = some fn) :
    true = Tryd.pinned.checked.prog.looks [] ∧ ∀ (j : Nat) t, fn.params[j]? = some t → Tryd.pinned.checked.prog.wantsStandIn t = false := by
  obtain rfl : f = 8 := Option.some.inj ((show Tryd.prog.funcNamed "gangsaw/gangsawlaw04.FractionTexts" = some 8 by kernel_rfl).symm.trans hf) |>.symm
  obtain rfl : fn = Tryd.f8 := (Option.some.inj (Tryd.func8.symm.trans hfn)).symm
  refine ⟨by kernel_rfl, fun j t ht => ?_⟩
  rw [Tryd.params8] at ht
  have hm := Array.mem_of_getElem? ht
  simp only [List.mem_toArray, List.mem_cons, List.not_mem_nil, or_false] at hm
  rcases hm with rfl | rfl
  · exact (show Tryd.prog.wantsStandIn 23 = false by kernel_rfl)
  · exact (show Tryd.prog.wantsStandIn 9 = false by kernel_rfl)

theorem card : Rows.FractionTextsCardSaid :=
  Claim7.holds_tied_plain_at .later [] _ _ _ _ said (fun _ h => by cases h) (by kernel_rfl) (fun _ h => by cases h) fractionTexts_row_tie rfl ⟨rfl, rfl⟩ (by kernel_rfl) rfl plain (by kernel_rfl)
#print axioms card
end Go.Proofs.YtdjnnbjpaohaiaaDoor.fractionTextsDone
