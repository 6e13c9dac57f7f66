/- Layer 2 (codec): awake, where the table of the positions of bits is what the row lists. -/
import Derived.Test.YtihcakicdelmoaaDoorRows
import Derived.Test.YtihcakicdelmoaaDoorEvO
import Derived.Test.YtihcakicdelmoaaDoorProg
import Derived.Lib.LaidTab
namespace Go.Proofs.YtihcakicdelmoaaDoor
open Go.RowKit Go.Ev

def tab64 : List Int := [0, 1, 56, 2, 57, 49, 28, 3, 61, 58, 42, 50, 38, 29, 17, 4, 62, 47, 59, 36, 45, 43, 51, 22, 53, 39, 33, 30, 24, 18, 12, 5, 63, 55, 48, 27, 60, 41, 37, 16, 46, 35, 44, 21, 52, 32, 23, 11, 54, 26, 40, 15, 34, 20, 31, 10, 25, 14, 19, 9, 13, 8, 7, 6]
def tabV : List Value := tab64.map fun z => .int .u8 z
theorem laid_tab : (Rows.laid_math_bits_deBruijn64tab : DataW Unit) = Lib.tabData .u8 tab64 := by kernel_rfl

/-- The table stands in the world as it is listed. -/
def HasTabs (w : World) : Prop := ∃ ty, w.heap[3]? = some (.cells tabV.toArray ty (0, 0))

theorem HasTabs.below {w w' : World} {B : Nat} (h : HasTabs w) (hb : Below B w w') (hB : 3 < B) : HasTabs w' := by
  obtain ⟨ty, h⟩ := h
  exact ⟨ty, (hb.block _ hB).trans h⟩
theorem HasTabs.lt {w : World} (h : HasTabs w) : 3 < w.heap.size := by
  obtain ⟨ty, h⟩ := h
  exact (Array.getElem?_eq_some_iff.1 h).1
theorem HasTabs.cell {w : World} (h : HasTabs w) : w.cell? ⟨3, 15, none⟩ = some (.int .u8 4) := by
  obtain ⟨ty, h⟩ := h
  simp only [World.cell?, h]
  rfl

theorem laidVars_tab {P : Program} {W : World} {name : String} {k : IntKind} {zs : List Int} {g : Nat} {t e : TypeId} {n : Nat}
    (hg : P.globalNamed name = some g) (hty : (P.globals[g]?).map (·.type) = some t) (ht : P.underlying t = some (.array n e)) (he : P.underlying e = some (.int k)) (hce : P.cellsOf e = 1) (hct : P.cellsOf t = n) (hz : 0 < zs.length) :
    ∀ {laid : List (String × DataW Unit)} {ps : List MemPlace}, DataW.LaidVars P W laid ps → (name, Lib.tabData k zs) ∈ laid → Lib.TabIs P W name k zs ∧ MemPlace.cell g 0 ∈ ps
  | [], ps, h, hm => by cases hm
  | (nm, d) :: r, ps, h, hm => by
    obtain ⟨g', t', cs, fuel, p, q, hg', ht', hvar, hd, hr, hps⟩ := h
    rcases List.mem_cons.1 hm with hm | hm
    · cases hm
      obtain rfl := Option.some.inj (hg.symm.trans hg')
      obtain rfl := Option.some.inj (hty.symm.trans ht')
      have hc := Lib.cells_of_tab ht he hce hct hd
      refine ⟨by unfold Lib.TabIs; rw [hvar, ← hc], ?_⟩
      have hs : 0 < cs.size := by
        have := congrArg List.length hc
        simp at this; omega
      rw [hps]
      exact List.mem_append_left _ (List.mem_append_left _ (List.mem_map.2 ⟨0, by simpa using hs, by simp⟩))
    · obtain ⟨h1, h2⟩ := laidVars_tab hg hty ht he hce hct hz hr hm
      exact ⟨h1, by rw [hps]; exact List.mem_append_right _ h2⟩

theorem tabs_of_met {W : World} {laid : List (String × DataW Unit)} (h : laidMet Tryd.prog laid W) (hm : ("math/bits.deBruijn64tab", Lib.tabData .u8 tab64) ∈ laid) {t e : TypeId} {n : Nat}
    (hty : (Tryd.prog.globals[3]?).map (·.type) = some t) (ht : Tryd.prog.underlying t = some (.array n e)) (he : Tryd.prog.underlying e = some (.int .u8)) (hce : Tryd.prog.cellsOf e = 1) (hct : Tryd.prog.cellsOf t = n) : HasTabs W := by
  obtain ⟨ps, hL, _, hp⟩ := h
  have hgn : Tryd.prog.globalNamed "math/bits.deBruijn64tab" = some 3 := by kernel_rfl
  obtain ⟨h1, h2⟩ := laidVars_tab hgn hty ht he hce hct (by decide) hL hm
  obtain ⟨⟨c, ty, hc⟩, _⟩ := hp _ _ h2
  refine ⟨ty, ?_⟩
  unfold Lib.TabIs World.var? at h1
  rw [hgn] at h1
  simp only [Option.bind_some, hc, Option.some.injEq] at h1
  rw [hc, h1]
  rfl

set_option maxRecDepth 100000
theorem evAwake (ty : TypeId) : @evalBeside (toldP (3 + 1) (ints fun _ => (.i64, 0)) [] [] []) Tryd.prog 300 11 [] [(3, ⟨tabV.map .clo, ty, none⟩)] = some (.bool true) := by kernel_rfl

theorem awake_any (w : World) (h : HasTabs w) : Calls Tryd.prog 11 #[] w fun e w' => e = .returned (.bool true) ∧ Below w.heap.size w w' := by
  obtain ⟨ty, h⟩ := h
  refine calls_toldP (by kernel_rfl) (3 + 1) (ints fun _ => (.i64, 0)) [] [] [] (fun _ h => by cases h) (fun _ h => by cases h) (fun _ h => by cases h) (args := []) (xs := []) rfl [(3, ⟨tabV.map .clo, ty, none⟩)] (evAwake ty) w ?_
  intro i b hb
  rw [look_cons] at hb
  rcases beq_cases 3 i with ⟨h1, h2⟩ | ⟨h1, h2⟩
  · subst h2
    simp only [h1, cond_true, Option.some.injEq] at hb
    subst hb
    refine ⟨by decide, rfl, @RepB.of (toldP (3 + 1) (ints fun _ => (.i64, 0)) [] [] []) _ _ _ _ tabV.toArray tabV h (@denL_clo (toldP (3 + 1) (ints fun _ => (.i64, 0)) [] [] []) _ _) (by simp) (by simp)⟩
  · simp only [h1, cond_false, look_nil] at hb
    cases hb
end Go.Proofs.YtihcakicdelmoaaDoor
