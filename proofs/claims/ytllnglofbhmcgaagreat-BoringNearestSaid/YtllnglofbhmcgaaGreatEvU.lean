/- A symbolic evaluation: what is wanted to use it: 64-bit variables, contracts by trees, ways by cases. -/
import Derived.Test.YtllnglofbhmcgaaGreatEvT
namespace Go.Ev
open Go.RowKit

def K64 : Kinds := ⟨fun _ => .i64, fun _ => .i64⟩

/-- Functions and predicates that terms name. -/
structure Fn64 where
  fv : Nat → List Int → Int
  pv : Nat → List Int → Bool
  fr : ∀ i xs, IntKind.i64.wrap (fv i xs) = fv i xs

def R64 (z : Int) : Prop := -9223372036854775808 ≤ z ∧ z ≤ 9223372036854775807
theorem wrap_R64 {z : Int} : IntKind.i64.wrap z = z ↔ R64 z := by
  rw [IntKind.wrap_i64]; unfold R64; omega
theorem wrap64 (z : Int) (h : -9223372036854775808 ≤ z ∧ z ≤ 9223372036854775807) : IntKind.i64.wrap z = z := wrap_R64.2 h

def val64 (F : Fn64) (zs : List Int) (h : ∀ z ∈ zs, R64 z) : Val K64 where
  vv i := zs.getD i 0
  fv := F.fv
  pv := F.pv
  vr i := by
    show IntKind.i64.wrap (zs.getD i 0) = zs.getD i 0
    rw [wrap_R64, List.getD_eq_getElem?_getD]
    cases hz : zs[i]? with
    | none => exact ⟨by decide, by decide⟩
    | some z => exact h z (List.mem_of_getElem? hz)
  fr := F.fr

theorem val64_vv (F : Fn64) (zs : List Int) (h : ∀ z ∈ zs, R64 z) (i : Nat) : (val64 F zs h).vv i = zs.getD i 0 := rfl
theorem val64_fv (F : Fn64) (zs : List Int) (h : ∀ z ∈ zs, R64 z) (i : Nat) : (val64 F zs h).fv i = F.fv i := rfl
theorem val64_pv (F : Fn64) (zs : List Int) (h : ∀ z ∈ zs, R64 z) (i : Nat) : (val64 F zs h).pv i = F.pv i := rfl

/-- All of 64 bits. -/
def all64 : List IntKind → Bool
  | [] => true
  | k :: r => kEq k .i64 && all64 r
theorem rng64 : ∀ {ks : List IntKind} {zs : List Int}, all64 ks = true → InRng ks zs → ∀ z ∈ zs, R64 z
  | [], [], _, _, _, hz => by cases hz
  | k :: ks, x :: xs, h, hr, z, hz => by
    simp only [all64, Bool.and_eq_true] at h
    have hk := kEq_eq h.1
    subst hk
    rcases List.mem_cons.1 hz with rfl | hz
    · exact wrap_R64.1 hr.1
    · exact rng64 h.2 hr.2 z hz
  | [], _ :: _, _, h, _, _ => h.elim
  | _ :: _, [], _, h, _, _ => h.elim

theorem br_val {K : Kinds} {S : Val K} {a : Atom} {t e : Tr} {v : Option Value} (ht : atV S a = true → trV S t = v) (he : atV S a = false → trV S e = v) : trV S (.br a t e) = v := by
  simp only [trV]
  cases ha : atV S a with
  | true => exact ht ha
  | false => exact he ha

theorem at_lt_t {K : Kinds} {S : Val K} {x y : Tm} : atV S (.lt x y) = true ↔ tv S x < tv S y := by simp [atV]
theorem at_lt_f {K : Kinds} {S : Val K} {x y : Tm} : atV S (.lt x y) = false ↔ tv S y ≤ tv S x := by simp [atV]
theorem at_eq_t {K : Kinds} {S : Val K} {x y : Tm} : atV S (.eq x y) = true ↔ tv S x = tv S y := by simp [atV]
theorem at_eq_f {K : Kinds} {S : Val K} {x y : Tm} : atV S (.eq x y) = false ↔ ¬ tv S x = tv S y := by simp [atV]
theorem at_p {K : Kinds} {S : Val K} {i : Nat} {x : Tm} {b : Bool} : atV S (.p i x) = b ↔ S.pv i (row S x) = b := Iff.rfl

/-- What a contract's tree proves. -/
theorem con_of {P : Program} {S : Val K64} {F : Fn64} (hf : S.fv = F.fv) (hp : S.pv = F.pv) {c : Con} (h64 : all64 (shK c.sh) = true) (hm : P.follows .mixedOrders = true) {cons : List Con} {eqs : FlatTab} (hc : ∀ (S : Val K64), S.fv = F.fv → S.pv = F.pv → ∀ c ∈ cons, ConOK P S anyW c) (hq : flatTabOK P eqs = true)
    {n : Nat} {args : List CV} {T : Tr} (hev : ∀ (S : Val K64), okTr P S cons eqs anyW 0 (fun _ _ _ _ => trivial) n c.f args [] T = true)
    (hargs : ∀ zs (h : ∀ z ∈ zs, R64 z), zs.length = (shK c.sh).length → dnLS (val64 F zs h) args = some (shV c.sh zs))
    (hval : ∀ zs (h : ∀ z ∈ zs, R64 z), zs.length = (shK c.sh).length → (∀ p ∈ c.pre, preV F.fv zs p) → trV (val64 F zs h) T = some (resV (val64 F zs h) zs c.rp)) : ConOK P S anyW c := by
  intro zs hz hpre w _
  have h := rng64 h64 hz
  have hl := InRng_length hz
  have hv := hval zs h hl (fun p hp' => by rw [← hf]; exact hpre p hp')
  have hr : resV (val64 F zs h) zs c.rp = resV S zs c.rp := by
    have : rpV (val64 F zs h) zs = rpV S zs := by
      funext r
      cases r <;> simp only [rpV, val64_fv, val64_pv, hf, hp]
    unfold resV
    rw [this]
  rw [hr] at hv
  exact okTr_any (S := val64 F zs h) hm (hc _ rfl rfl) hq (hargs zs h hl) (hev _) hv w

/-- The same, where the ways begin with what the conditions say. -/
theorem con_from {P : Program} {S : Val K64} {F : Fn64} (hf : S.fv = F.fv) (hp : S.pv = F.pv) {c : Con} (h64 : all64 (shK c.sh) = true) (hm : P.follows .mixedOrders = true) {cons : List Con} {eqs : FlatTab} (hc : ∀ (S : Val K64), S.fv = F.fv → S.pv = F.pv → ∀ c ∈ cons, ConOK P S anyW c) (hq : flatTabOK P eqs = true)
    {n : Nat} {args : List CV} {T : Tr} (π : Path) (hev : ∀ (S : Val K64), okTr P S cons eqs anyW 0 (fun _ _ _ _ => trivial) n c.f args π T = true)
    (hargs : ∀ zs (h : ∀ z ∈ zs, R64 z), zs.length = (shK c.sh).length → dnLS (val64 F zs h) args = some (shV c.sh zs))
    (hval : ∀ zs (h : ∀ z ∈ zs, R64 z), zs.length = (shK c.sh).length → (∀ p ∈ c.pre, preV F.fv zs p) → Sat (val64 F zs h) π ∧ trV (val64 F zs h) T = some (resV (val64 F zs h) zs c.rp)) : ConOK P S anyW c := by
  intro zs hz hpre w _
  have h := rng64 h64 hz
  have hl := InRng_length hz
  obtain ⟨hs, hv⟩ := hval zs h hl (fun p hp' => by rw [← hf]; exact hpre p hp')
  have hr : resV (val64 F zs h) zs c.rp = resV S zs c.rp := by
    have : rpV (val64 F zs h) zs = rpV S zs := by
      funext r
      cases r <;> simp only [rpV, val64_fv, val64_pv, hf, hp]
    unfold resV
    rw [this]
  rw [hr] at hv
  exact okTr_calls (S := val64 F zs h) hm (hc _ rfl rfl) hq (hargs zs h hl) T π hs (hev _) _ hv w trivial (Nat.zero_le _)

/-- The same, where some ways are ruled out besides. -/
theorem con_fromB {P : Program} {S : Val K64} {F : Fn64} (hf : S.fv = F.fv) (hp : S.pv = F.pv) {c : Con} (h64 : all64 (shK c.sh) = true) (hm : P.follows .mixedOrders = true) {cons : List Con} {eqs : FlatTab} (hc : ∀ (S : Val K64), S.fv = F.fv → S.pv = F.pv → ∀ c ∈ cons, ConOK P S anyW c) (hq : flatTabOK P eqs = true)
    {n : Nat} {args : List CV} {T : Tr} (π : Path) (bads : List Path) (hev : ∀ (S : Val K64), okTrB P S cons eqs anyW 0 (fun _ _ _ _ => trivial) n c.f args bads π T = true)
    (hargs : ∀ zs (h : ∀ z ∈ zs, R64 z), zs.length = (shK c.sh).length → dnLS (val64 F zs h) args = some (shV c.sh zs))
    (hval : ∀ zs (h : ∀ z ∈ zs, R64 z), zs.length = (shK c.sh).length → (∀ p ∈ c.pre, preV F.fv zs p) → Sat (val64 F zs h) π ∧ (∀ b ∈ bads, ¬ Sat (val64 F zs h) b) ∧ trV (val64 F zs h) T = some (resV (val64 F zs h) zs c.rp)) : ConOK P S anyW c := by
  intro zs hz hpre w _
  have h := rng64 h64 hz
  have hl := InRng_length hz
  obtain ⟨hs, hbad, hv⟩ := hval zs h hl (fun p hp' => by rw [← hf]; exact hpre p hp')
  have hr : resV (val64 F zs h) zs c.rp = resV S zs c.rp := by
    have : rpV (val64 F zs h) zs = rpV S zs := by
      funext r
      cases r <;> simp only [rpV, val64_fv, val64_pv, hf, hp]
    unfold resV
    rw [this]
  rw [hr] at hv
  exact okTrB_calls (S := val64 F zs h) hm (hc _ rfl rfl) hq (hargs zs h hl) bads hbad T π hs (hev _) _ hv w trivial (Nat.zero_le _)

theorem sat_nil {K : Kinds} {S : Val K} : Sat S [] := fun _ h => by cases h
theorem sat_cons {K : Kinds} {S : Val K} {a : Atom} {b : Bool} {π : Path} (h : atV S a = b) (hs : Sat S π) : Sat S ((a, b) :: π) := fun q hq => by
  rcases List.mem_cons.1 hq with rfl | hq
  · exact h
  · exact hs q hq

/-- What a law's tree proves. -/
theorem law_of {P : Program} {F : Fn64} (π : Path) (hm : P.follows .mixedOrders = true) {cons : List Con} {eqs : FlatTab} (hc : ∀ (S : Val K64), S.fv = F.fv → S.pv = F.pv → ∀ c ∈ cons, ConOK P S anyW c) (hq : flatTabOK P eqs = true)
    {n : Nat} {f : FuncId} {args : List CV} {T : Tr} (hev : ∀ (S : Val K64), okTr P S cons eqs anyW 0 (fun _ _ _ _ => trivial) n f args π T = true)
    {zs : List Int} (h : ∀ z ∈ zs, R64 z) {xs : List Value} (hx : dnLS (val64 F zs h) args = some xs) (hs : Sat (val64 F zs h) π) {u : Value} (hv : trV (val64 F zs h) T = some u) (w : World) :
    Calls P f xs.toArray w fun e w' => e = .returned u ∧ Below w.heap.size w w' :=
  okTr_calls (S := val64 F zs h) hm (hc _ rfl rfl) hq hx T π hs (hev _) u hv w trivial (Nat.zero_le _)

end Go.Ev
