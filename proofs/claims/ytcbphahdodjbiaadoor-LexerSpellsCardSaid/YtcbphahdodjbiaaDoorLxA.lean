/- Layer 9 (lexer): functions of a byte; awake. -/
import Derived.Test.YtcbphahdodjbiaaDoorEvO
import Derived.Test.YtcbphahdodjbiaaDoorProg
namespace Go.Proofs.YtcbphahdodjbiaaDoor
open Go.RowKit Go.Ev
set_option maxRecDepth 100000

theorem awake_any (w : World) : Calls Tryd.prog 4 #[] w fun e w' => e = .returned (.bool true) ∧ Below w.heap.size w w' :=
  calls_closed (by kernel_rfl) (n := 300) (args := []) (by kernel_rfl) w

/-- A function of a byte, worked out for each of the 256. -/
noncomputable def byteTab (P : Program) (f : FuncId) (p : Nat → Bool) : Bool :=
  (List.range 256).all fun n => match @evalBeside noVars P 60 f [.clo (.int .u8 (.ofNat n))] [] with | some (.bool b) => cond b (p n) (!p n) | _ => false
theorem byte_calls {P : Program} (hm : P.follows .mixedOrders = true) {f : FuncId} {p : Nat → Bool} (h : byteTab P f p = true) (c : UInt8) (w : World) :
    Calls P f #[.int .u8 (c.toNat : Int)] w fun e w' => e = .returned (.bool (p c.toNat)) ∧ Below w.heap.size w w' := by
  have hc := c.toNat_lt
  unfold byteTab at h
  rw [List.all_eq_true] at h
  have := h c.toNat (by simp; omega)
  split at this
  · rename_i b hb
    have he : b = p c.toNat := by
      cases b <;> cases hp : p c.toNat <;> simp_all
    subst he
    exact calls_closed hm (args := [.int .u8 (c.toNat : Int)]) hb w
  · cases this

def pSm (n : Nat) : Bool := Nat.ble 97 n && Nat.ble n 122
def pCap (n : Nat) : Bool := Nat.ble 65 n && Nat.ble n 90
def pDg (n : Nat) : Bool := Nat.ble 48 n && Nat.ble n 57
def pNm (n : Nat) : Bool := pSm n || pDg n || Nat.beq n 95
def pLb (n : Nat) : Bool := Nat.ble 32 n && Nat.ble n 126 && !Nat.beq n 34
def pLt (n : Nat) : Bool := pSm n || pCap n
def pPt (n : Nat) : Bool := pDg n || pLt n || Nat.beq n 95
theorem mixed : Tryd.prog.follows .mixedOrders = true := by kernel_rfl
theorem tSm : byteTab Tryd.prog 35 pSm = true := by kernel_rfl
theorem tLb : byteTab Tryd.prog 51 pLb = true := by kernel_rfl
theorem tLt : byteTab Tryd.prog 26 pLt = true := by kernel_rfl
theorem tPt : byteTab Tryd.prog 29 pPt = true := by kernel_rfl
end Go.Proofs.YtcbphahdodjbiaaDoor
