/- A number as uint64 has it. -/
import Derived.WalkKit
namespace Go.Proofs.Ytabdkhlpickjiaa
/-- A number as uint64 has it. -/
def uw (n : Int) : Nat := (IntKind.u64.wrap n).toNat
theorem uw_lt (n : Int) : uw n < 18446744073709551616 := by unfold uw; rw [IntKind.wrap_u64]; omega
theorem uw_eq (n : Int) : IntKind.u64.wrap n = (uw n : Int) := by unfold uw; rw [IntKind.wrap_u64]; omega
end Go.Proofs.Ytabdkhlpickjiaa
