/- Layer 4 (fraction): awake, where the table of the powers of ten is what the row lists. -/
import Derived.Test.YtdjnnbjpaohaiaaDoorRows
import Derived.Test.YtdjnnbjpaohaiaaDoorEvO
import Derived.Lib.LaidTab
namespace Go.Proofs.YtdjnnbjpaohaiaaDoor
open Go.RowKit Go.Ev

def pow10 : List Int := [1, 10, 100, 1000, 10000, 100000, 1000000, 10000000, 100000000, 1000000000, 10000000000, 100000000000, 1000000000000, 10000000000000, 100000000000000, 1000000000000000, 10000000000000000, 100000000000000000, 1000000000000000000, 10000000000000000000]
def powV : List Value := pow10.map fun z => .int .u64 z
theorem laid_pow : (Rows.laid_internal_strconv_uint64pow10 : DataW Unit) = Lib.tabData .u64 pow10 := by kernel_rfl

/-- The table stands in the world as it is listed. -/
def HasPow (w : World) : Prop := ∃ ty, w.heap[5]? = some (.cells powV.toArray ty (0, 0))

theorem HasPow.below {w w' : World} {B : Nat} (h : HasPow w) (hb : Below B w w') (hB : 5 < B) : HasPow w' := by
  obtain ⟨ty, h⟩ := h
  exact ⟨ty, (hb.block _ hB).trans h⟩

theorem laidVars_tab {P : Program} {W : World} {name : String} {k : IntKind} {zs : List Int} {g : Nat} {t e : TypeId} {n : Nat}
    (hg : P.globalNamed name = some g) (hty : (P.globals[g]?).map (·.type) = some t) (ht : P.underlying t = some (.array n e)) (he : P.underlying e = some (.int k)) (hce : P.cellsOf e = 1) (hct : P.cellsOf t = n) (hz : 0 < zs.length) :
    ∀ {laid : List (String × DataW Unit)} {ps : List MemPlace}, DataW.LaidVars P W laid ps → (name, Lib.tabData k zs) ∈ laid → Lib.TabIs P W name k zs ∧ MemPlace.cell g 0 ∈ ps
  | [], ps, h, hm => by cases hm
  | (nm, d) :: r, ps, h, hm => by
    obtain ⟨g', t', cs, fuel, p, q, hg', ht', hvar, hd, hr, hps⟩ := h
    rcases List.mem_cons.1 hm with hm | hm
    · cases hm
      obtain rfl := Option.some.inj (hg.symm.trans hg')
      obtain rfl := Option.some.inj (hty.symm.trans ht')
      have hc := Lib.cells_of_tab ht he hce hct hd
      refine ⟨by unfold Lib.TabIs; rw [hvar, ← hc], ?_⟩
      have hs : 0 < cs.size := by
        have := congrArg List.length hc
        simp at this; omega
      rw [hps]
      exact List.mem_append_left _ (List.mem_append_left _ (List.mem_map.2 ⟨0, by simpa using hs, by simp⟩))
    · obtain ⟨h1, h2⟩ := laidVars_tab hg hty ht he hce hct hz hr hm
      exact ⟨h1, by rw [hps]; exact List.mem_append_right _ h2⟩

theorem pow_of_met {W : World} {laid : List (String × DataW Unit)} (h : laidMet Tryd.prog laid W) (hm : ("internal/strconv.uint64pow10", Lib.tabData .u64 pow10) ∈ laid) {t e : TypeId} {n : Nat}
    (hty : (Tryd.prog.globals[5]?).map (·.type) = some t) (ht : Tryd.prog.underlying t = some (.array n e)) (he : Tryd.prog.underlying e = some (.int .u64)) (hce : Tryd.prog.cellsOf e = 1) (hct : Tryd.prog.cellsOf t = n) : HasPow W := by
  obtain ⟨ps, hL, _, hp⟩ := h
  have hgn : Tryd.prog.globalNamed "internal/strconv.uint64pow10" = some 5 := by kernel_rfl
  obtain ⟨h1, h2⟩ := laidVars_tab hgn hty ht he hce hct (by decide) hL hm
  obtain ⟨⟨c, ty, hc⟩, _⟩ := hp _ _ h2
  refine ⟨ty, ?_⟩
  unfold Lib.TabIs World.var? at h1
  rw [hgn] at h1
  simp only [Option.bind_some, hc, Option.some.injEq] at h1
  rw [hc, h1]
  rfl

set_option maxRecDepth 100000
theorem evAwake (ty : TypeId) : @evalBeside (toldP (5 + 1) (ints fun _ => (.i64, 0)) [] [] []) Tryd.prog 300 13 [] [(5, ⟨powV.map .clo, ty, none⟩)] = some (.bool true) := by kernel_rfl

theorem awake_any (w : World) (h : HasPow w) : Calls Tryd.prog 13 #[] w fun e w' => e = .returned (.bool true) ∧ Below w.heap.size w w' := by
  obtain ⟨ty, h⟩ := h
  refine calls_toldP (by kernel_rfl) (5 + 1) (ints fun _ => (.i64, 0)) [] [] [] (fun _ h => by cases h) (fun _ h => by cases h) (fun _ h => by cases h) (args := []) (xs := []) rfl [(5, ⟨powV.map .clo, ty, none⟩)] (evAwake ty) w ?_
  intro i b hb
  rw [look_cons] at hb
  rcases beq_cases 5 i with ⟨h1, h2⟩ | ⟨h1, h2⟩
  · subst h2
    simp only [h1, cond_true, Option.some.injEq] at hb
    subst hb
    refine ⟨by decide, rfl, @RepB.of (toldP (5 + 1) (ints fun _ => (.i64, 0)) [] [] []) _ _ _ _ powV.toArray powV h (@denL_clo (toldP (5 + 1) (ints fun _ => (.i64, 0)) [] [] []) _ _) (by simp) (by simp)⟩
  · simp only [h1, cond_false, look_nil] at hb
    cases hb
end Go.Proofs.YtdjnnbjpaohaiaaDoor
