/- Layer 9 (lexer): the law LexerSpells. -/
import Derived.Test.YtcbphahdodjbiaaDoorLyO
namespace Go.Proofs.YtcbphahdodjbiaaDoor
open Go.RowKit Go.Ev
set_option maxRecDepth 100000

abbrev lwSym (k n a tl : Int) (t s : ByteArray) : Tm → Sym
  | .v 0 => intSym .i64 k
  | .v 1 => strSym t
  | .v 2 => intSym .i64 n
  | .v 3 => intSym .i64 a
  | .v 4 => intSym .i64 tl
  | .v 5 => strSym s
  | _ => intSym .i64 0
abbrev lwRes (V : Bool) : CV := cond V (.tup [.sy 5, .clo (iv 0)]) (.clo (.tuple #[strV [], iv 2]))
abbrev lwCalls (big V : Bool) : List KCall := (4, [], .clo (.bool true)) :: cond big [] [(5, [tokC 0 1 2 3], lwRes V), (6, [tokC 0 1 2 3], lwRes V), (7, [tokC 0 1 2 3], .clo (.bool V)), (8, [tokC 0 1 2 3], .clo (.bool V))]
abbrev lwOps (big : Bool) : List KOp := [(.ln 9, [.sy 1], .sy 4), (.bin .gtr 3, [.sy 4, .clo (iv 100)], .clo (.bool big)), (.bin .eql 9, [.sy 5, .sy 5], .clo (.bool true))]
theorem evLw (k n a tl : Int) (t s : ByteArray) (big V : Bool) :
    resC (evalFn0 Tryd.prog (@evalC (toldK 0 (lwSym k n a tl t s) (lwCalls big V) [] (lwOps big) LxW gTop lx_kst) Tryd.prog 300 true) 0 3 [tokC 0 1 2 3] ⟨0, []⟩) = some (.clo (.bool true)) := by
  cases big
  · cases V <;> kernel_rfl
  · kernel_rfl
theorem lexerSpells_any (k : Int) (t : List UInt8) (n a : Int) (hn : In64 n) (w : World) (hw : LxW w) : Calls Tryd.prog 3 #[tokV k t n a] w fun e w' => e = .returned (.bool true) ∧ Below w.heap.size w w' := by
  have hT : (⟨t.toArray⟩ : ByteArray).size = t.length := str_size t
  obtain ⟨hv, hs⟩ := valid_both k t n hn
  refine calls_toldR mixed (lwSym k n a t.length ⟨t.toArray⟩ ⟨(spellF k t n).toArray⟩) (lwCalls (decide (100 < t.length)) (valF k t n)) [] (lwOps (decide (100 < t.length))) LxW gTop lx_kst
    ?_ (fun _ h => by cases h) ?_ (args := [tokC 0 1 2 3]) (xs := [tokV k t n a]) rfl _ (evLw _ _ _ _ _ _ _ _) rfl w hw hw.1
  · intro z hz
    rcases List.mem_cons.1 hz with rfl | hz
    · exact ⟨[], .bool true, rfl, rfl, fun w _ => awake_any w⟩
    · by_cases hb : 100 < t.length
      · rw [decide_eq_true hb] at hz; cases hz
      · rw [decide_eq_false hb] at hz
        have h1 := fun w hw => spell_any k t n a (by omega) hn w hw
        have h2 := fun w hw => rSpell_any k t n a (by omega) hn w hw
        have h3 := fun w hw => valid_any k t n a (by omega) hn w hw
        have h4 := fun w hw => rValid_any k t n a (by omega) hn w hw
        unfold spV at h1
        unfold rSpV at h2
        rw [hv] at h2 h4
        have hs' : cond (valF k t n) (.tuple #[strV (rspF k t n), iv 0]) (.tuple #[strV [], iv 2]) = cond (valF k t n) (Value.tuple #[strV (spellF k t n), iv 0]) (.tuple #[strV [], iv 2]) := by
          cases h : valF k t n
          · rfl
          · rw [hs h]
        rw [hs'] at h2
        clear hs' hs hv
        generalize valF k t n = V at h1 h2 h3 h4 hz
        simp only [cond_false, List.mem_cons, List.not_mem_nil, or_false] at hz
        rcases hz with rfl | rfl | rfl | rfl
        · exact ⟨[tokV k t n a], _, rfl, by cases V <;> rfl, fun w hw => h1 w hw⟩
        · exact ⟨[tokV k t n a], _, rfl, by cases V <;> rfl, fun w hw => h2 w hw⟩
        · exact ⟨[tokV k t n a], _, rfl, rfl, fun w hw => h3 w hw⟩
        · exact ⟨[tokV k t n a], _, rfl, rfl, fun w hw => h4 w hw⟩
  · intro z hz
    simp only [lwOps, List.mem_cons, List.not_mem_nil, or_false] at hz
    rcases hz with rfl | rfl | rfl
    · exact ⟨[strV t], iv t.length, rfl, rfl, by rw [← hT]; exact tells_lnS (by kernel_rfl)⟩
    · exact ⟨[iv t.length, iv 100], _, rfl, rfl, tells_gtr (by rw [decide_eq_decide]; omega)⟩
    · exact ⟨[strV (spellF k t n), strV (spellF k t n)], _, rfl, rfl, tells_eqS2 (decide_eq_true rfl)⟩
end Go.Proofs.YtcbphahdodjbiaaDoor
