/- Layer 4 (fraction): the law FractionTexts. -/
import Derived.Test.YtdjnnbjpaohaiaaDoorTxE
import Derived.Test.YtdjnnbjpaohaiaaDoorFsA
namespace Go.Proofs.YtdjnnbjpaohaiaaDoor
open Go.RowKit Go.Ev
set_option maxRecDepth 100000

theorem tx_kst : ∀ w w', TxW w → Below 6 w w' → TxW w' := fun _ _ h hb => h.below hb (by omega)
abbrev strSym (s : ByteArray) : Sym := ⟨.string s, rfl, fun _ h => by cases h⟩
abbrev txSym (n d x y z : Int) (s t : ByteArray) : Tm → Sym
  | .v 0 => intSym .i64 n
  | .v 1 => intSym .i64 d
  | .v 2 => strSym s
  | .v 3 => strSym t
  | .v 4 => intSym .i64 x
  | .v 5 => intSym .i64 y
  | .v 6 => intSym .i64 z
  | _ => intSym .i64 0
abbrev txLen (big : Bool) : List KOp := [(.ln 9, [.sy 2], .sy 6), (.bin .gtr 3, [.sy 6, .clo (iv 100)], .clo (.bool big))]
abbrev txBase : List KCall := [(13, [], .clo (.bool true))]
abbrev txParse (o : Bool) : List KCall :=
  [(35, [.sy 2], cond o (.tup [.agg [.sy 4, .sy 5], .clo (iv 0)]) (.clo (.tuple #[frV 0 0, iv 2]))), (36, [.sy 2], cond o (.tup [.agg [.sy 4, .sy 5], .clo (.bool true)]) (.clo (.tuple #[frV 0 0, .bool false])))]
abbrev txText (v : Bool) : List KCall :=
  [(37, [.agg [.sy 0, .sy 1]], cond v (.tup [.sy 3, .clo (iv 0)]) (.clo (.tuple #[.string ⟨#[]⟩, iv 1]))), (15, [.agg [.sy 0, .sy 1]], .clo (.bool v)), (38, [.agg [.sy 0, .sy 1]], .sy 3)]
abbrev txBack : List KCall := [(35, [.sy 3], .tup [.agg [.sy 0, .sy 1], .clo (iv 0)])]
abbrev txEqs : List KEq := [(23, .agg [.sy 4, .sy 5], .agg [.sy 4, .sy 5], true), (23, .agg [.sy 0, .sy 1], .agg [.sy 0, .sy 1], true)]
abbrev txStr : List KOp := [(.bin .eql 9, [.sy 3, .sy 3], .clo (.bool true))]
theorem evTx0 (n d x y z : Int) (s t : ByteArray) : @evalBeside (toldK 0 (txSym n d x y z s t) txBase [] (txLen true) TxW 6 tx_kst) Tryd.prog 300 8 [.agg [.sy 0, .sy 1], .sy 2] [] = some (.bool true) := by kernel_rfl
theorem evTx1 (n d x y z : Int) (s t : ByteArray) (o v : Bool) : @evalBeside (toldK 0 (txSym n d x y z s t) (txBase ++ (txParse o ++ (txText v ++ cond v txBack []))) txEqs (txLen false ++ txStr) TxW 6 tx_kst) Tryd.prog 300 8 [.agg [.sy 0, .sy 1], .sy 2] [] = some (.bool true) := by
  cases o <;> cases v <;> kernel_rfl
theorem tells_eqS {t : TypeId} {a : ByteArray} : Tells Tryd.prog (.bin .eql t) [.string a, .string a] (.bool true) :=
  tells_bin (fun w xo yo => by simp [eqGuard]) fun w => by simp [binOp, Op.stringOp]
theorem lst_str (s : ByteArray) : (⟨s.data.toList.toArray⟩ : ByteArray) = s := by
  apply ByteArray.ext
  simp
theorem TxW.lt {w : World} (h : TxW w) : 6 ≤ w.heap.size := h.1.size
theorem okR_eq (s : List UInt8) : okR s = okT s := by
  unfold okR
  by_cases h : okT s = true
  · have h1 : s.length ≤ 40 := by
      unfold okT at h
      simp only [Bool.and_eq_true, decide_eq_true_eq] at h
      have := txt_len h.1
      rw [h.2] at this
      exact this
    rw [h, decide_eq_true h1]
    rfl
  · rw [Bool.not_eq_true] at h
    rw [h, Bool.and_false]
theorem okT_txt {n d : Int} (h1 : In64 n) (h2 : In64 d) (hv : validF n d = true) : okT (txt n d) = true := by
  unfold okT
  rw [psN_txt h1, psD_txt h2, hv]
  simp
theorem texts_any (n d : Int) (h1 : In64 n) (h2 : In64 d) (s : ByteArray) (hz : s.size ≤ 9223372036854775807) (w : World) (hT : TxW w) :
    Calls Tryd.prog 8 #[frV n d, .string s] w fun e w' => e = .returned (.bool true) ∧ Below w.heap.size w w' := by
  obtain ⟨x, hx⟩ : ∃ x, x = psN s.data.toList := ⟨_, rfl⟩
  obtain ⟨y, hy⟩ : ∃ y, y = psD s.data.toList := ⟨_, rfl⟩
  have hlen : ∀ b : Bool, decide (100 < (s.size : Int)) = b → ∀ r ∈ txLen b, OpIs Tryd.prog (txSym n d x y s.size s ⟨(txt n d).toArray⟩) r := by
    intro b hb r hr
    simp only [txLen, List.mem_cons, List.not_mem_nil, or_false] at hr
    rcases hr with rfl | rfl
    · exact ⟨[.string s], iv s.size, rfl, rfl, tells_lnS (by kernel_rfl)⟩
    · exact ⟨[iv s.size, iv 100], .bool b, rfl, rfl, tells_gtr hb⟩
  have hbase : ∀ r ∈ txBase, CallAt Tryd.prog (txSym n d x y s.size s ⟨(txt n d).toArray⟩) TxW r := by
    intro r hr
    simp only [txBase, List.mem_cons, List.not_mem_nil, or_false] at hr
    subst hr
    exact ⟨[], .bool true, rfl, rfl, fun w hw => awake_any w hw.1⟩
  by_cases hbig : 100 < s.size
  · exact calls_toldK (by kernel_rfl) 0 (txSym n d x y s.size s ⟨(txt n d).toArray⟩) txBase [] (txLen true) TxW 6 tx_kst hbase (fun _ h => by cases h) (hlen true (decide_eq_true (by omega)))
      (args := [.agg [.sy 0, .sy 1], .sy 2]) (xs := [frV n d, .string s]) rfl [] (evTx0 _ _ _ _ _ _ _) w hT hT.lt (fun i b h => by simp [look_nil] at h)
  · have hl : s.data.toList.length ≤ 100 := by rw [Array.length_toList]; show s.size ≤ 100; omega
    have hp := fun w hw => pParse_any s.data.toList hl w hw
    have hr := fun w hw => rParse_any s.data.toList hl w hw
    unfold parseV at hp
    unfold rParseV at hr
    rw [okR_eq] at hr
    have hs0 : strV s.data.toList = .string s := by
      show Value.string ⟨s.data.toList.toArray⟩ = _
      rw [lst_str]
    rw [← hx, ← hy, hs0] at hp hr
    refine calls_toldK (by kernel_rfl) 0 (txSym n d x y s.size s ⟨(txt n d).toArray⟩) (txBase ++ (txParse (okT s.data.toList) ++ (txText (validF n d) ++ cond (validF n d) txBack []))) txEqs (txLen false ++ txStr) TxW 6 tx_kst
      (app2 hbase (app2 (fun z hz => ?_) (app2 (fun z hz => ?_) (fun z hz => ?_)))) ?_ (app2 (hlen false (decide_eq_false (by omega))) fun z hz => ?_)
      (args := [.agg [.sy 0, .sy 1], .sy 2]) (xs := [frV n d, .string s]) rfl [] (evTx1 _ _ _ _ _ _ _ _ _) w hT hT.lt (fun i b h => by simp [look_nil] at h)
    · simp only [txParse, List.mem_cons, List.not_mem_nil, or_false] at hz
      generalize okT s.data.toList = o at hp hr hz
      rcases hz with rfl | rfl
      · exact ⟨[.string s], _, rfl, by cases o <;> rfl, fun w hw => hp w hw⟩
      · exact ⟨[.string s], _, rfl, by cases o <;> rfl, fun w hw => hr w hw⟩
    · simp only [txText, List.mem_cons, List.not_mem_nil, or_false] at hz
      have ht := fun w hw => pText_any n d h1 h2 w hw
      unfold textV at ht
      have hvv := fun w => rValid_any n d h1.1 h1.2 h2.1 h2.2 w
      generalize validF n d = v at hz ht hvv
      rcases hz with rfl | rfl | rfl
      · exact ⟨[frV n d], _, rfl, by cases v <;> rfl, fun w hw => ht w hw⟩
      · exact ⟨[frV n d], .bool v, rfl, rfl, fun w hw => hvv w⟩
      · exact ⟨[frV n d], strV (txt n d), rfl, rfl, fun w hw => rText_any n d h1 h2 w hw⟩
    · cases hv : validF n d with
      | false => rw [hv] at hz; cases hz
      | true =>
        rw [hv] at hz
        simp only [cond_true, txBack, List.mem_cons, List.not_mem_nil, or_false] at hz
        subst hz
        have hb := fun w hw => pParse_any (txt n d) (by have := txt_len hv; omega) w hw
        unfold parseV at hb
        rw [okT_txt h1 h2 hv, psN_txt h1, psD_txt h2] at hb
        exact ⟨[strV (txt n d)], .tuple #[frV n d, iv 0], rfl, rfl, fun w hw => hb w hw⟩
    · intro z hz
      simp only [txEqs, List.mem_cons, List.not_mem_nil, or_false] at hz
      rcases hz with rfl | rfl
      · exact fr_eq (a := x) (b := y) (c := x) (d := y) rfl rfl (by simp)
      · exact fr_eq (a := n) (b := d) (c := n) (d := d) rfl rfl (by simp)
    · simp only [txStr, List.mem_cons, List.not_mem_nil, or_false] at hz
      subst hz
      exact ⟨[strV (txt n d), strV (txt n d)], .bool true, rfl, rfl, tells_eqS⟩
end Go.Proofs.YtdjnnbjpaohaiaaDoor
