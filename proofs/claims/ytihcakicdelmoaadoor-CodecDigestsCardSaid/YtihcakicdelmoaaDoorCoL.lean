/- Layer 2 (codec): the law of digests. -/
import Derived.Test.YtihcakicdelmoaaDoorCoC
import Derived.Test.YtihcakicdelmoaaDoorCoK
namespace Go.Proofs.YtihcakicdelmoaaDoor
open Go.RowKit

set_option maxRecDepth 20000 in
set_option maxHeartbeats 2000000 in
theorem codecDigests_any (s : ByteArray) (w : World) (hT : HasTabs w) : Calls Tryd.prog 9 #[.string s] w fun e w' => e = .returned (.bool true) ∧ Below w.heap.size w w' := by
  have HA := Lib.hid (fun W (h : HasTabs W) => awake_any W h)
  have HD := Lib.hid (fun (hs : s.size ≤ 1000000000) W (h : HasTab W) => dig_any s hs W h)
  have HR := Lib.hid (fun (hs : s.size ≤ 1000000000) W => rdig_any s hs W)
  have HT := Lib.hid hT
  clear hT
  go_enter Tryd.func9, Tryd.ntmps9
  go_wp2_with fail
  refine (HA.out _ HT.out).mono ?_
  rintro e w1 ⟨rfl, hb1⟩
  go_wp2_with fail
  · rename_i hlt
    have hs : s.size ≤ 1000000000 := by omega
    refine (HD.out hs _ (HT.out.below hb1 HT.out.lt).cell).mono ?_
    rintro e w2 ⟨rfl, hb2⟩
    have hb2' := hb1.trans (hb2.mono hb1.size)
    go_wp2_with fail
    refine (HR.out hs _).mono ?_
    rintro e w3 ⟨rfl, hb3⟩
    have hb3' := hb2'.trans (hb3.mono hb2'.size)
    go_wp2_with fail
    go_ret
    exact ⟨by simp, hb3'⟩
  · go_ret
    exact ⟨rfl, hb1⟩
end Go.Proofs.YtihcakicdelmoaaDoor
