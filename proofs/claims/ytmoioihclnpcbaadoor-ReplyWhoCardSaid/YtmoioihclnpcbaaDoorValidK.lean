/- What the kinds of bytes are, byte by byte. -/
import Derived.Test.YtmoioihclnpcbaaDoorValidB
namespace Go.Proofs.YtmoioihclnpcbaaDoor
open Go.RowKit

theorem all256 {p : UInt8 → Bool} (h : ((List.range 256).all fun n => p n.toUInt8) = true) (b : UInt8) : p b = true := by
  have := List.all_eq_true.1 h b.toNat (List.mem_range.2 b.toNat_lt)
  simpa using this
theorem isK5 (b : UInt8) : isK 5 b = (letterB b || signB b) := by
  have := all256 (p := fun b => isK 5 b == (letterB b || signB b)) (by kernel_rfl) b
  simpa using this
theorem isK15 (b : UInt8) : isK 15 b = (letterB b || signB b || digitB b || decide (b.toNat = 45)) := by
  have := all256 (p := fun b => isK 15 b == (letterB b || signB b || digitB b || decide (b.toNat = 45))) (by kernel_rfl) b
  simpa using this
/-- may a byte stand in a channel? -/
def chanB (b : UInt8) : Bool := !(decide (b.toNat = 0 ∨ b.toNat = 7 ∨ b.toNat = 10 ∨ b.toNat = 13 ∨ b.toNat = 32 ∨ b.toNat = 44 ∨ b.toNat = 58))
theorem isK1888 (b : UInt8) : isK 1888 b = !chanB b := by
  have := all256 (p := fun b => isK 1888 b == !chanB b) (by kernel_rfl) b
  simpa using this
theorem isK160 (b : UInt8) : isK 160 b = inB [33, 64, 42, 63, 58] b := by
  have := all256 (p := fun b => isK 160 b == inB [33, 64, 42, 63, 58] b) (by kernel_rfl) b
  simpa using this

end Go.Proofs.YtmoioihclnpcbaaDoor
