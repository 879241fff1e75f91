/- The walk of FloatCompares: for every two floats the law answers true. -/
import Derived.Test.YtecafgonofjglaaDoorFlFirst
import Derived.Test.YtecafgonofjglaaDoorFlR1
namespace Go.Proofs.YtecafgonofjglaaDoor
open Go.RowKit

set_option maxHeartbeats 1000000 in
theorem walkFloatCompares (a0 b0 : Int) (w : World) (ha : (Lit.int .u64 a0).wf = true) (hb : (Lit.int .u64 b0).wf = true) (hw : Lw w) :
    Calls Tryd.prog 3 #[.int .u64 a0, .int .u64 b0] w fun e w' => e = .returned (.bool true) ∧ Below w.heap.size w w' := by
  obtain ⟨a1, a2⟩ := wf_u64 ha
  obtain ⟨b1, b2⟩ := wf_u64 hb
  obtain ⟨a, rfl⟩ : ∃ a : Nat, a0 = (a : Int) := ⟨a0.toNat, by omega⟩
  obtain ⟨b, rfl⟩ : ∃ b : Nat, b0 = (b : Int) := ⟨b0.toNat, by omega⟩
  have ha' : a < 18446744073709551616 := by omega
  have hb' : b < 18446744073709551616 := by omega
  have HW := hid hw
  clear hw ha hb a1 a2 b1 b2
  go_enter Tryd.func3, Tryd.ntmps3
  go_wp2_with fail
  refine (first_c w HW.out).mono ?_
  rintro e w1 ⟨rfl, hbel⟩
  go_wp2_with fail
  refine (compare_c a b ha' hb' w1).mono ?_
  rintro e w' ⟨rfl, rfl⟩
  go_wp2_with fail
  refine (rCompare_c a b ha' hb' w1).mono ?_
  rintro e w' ⟨rfl, rfl⟩
  generalize fCmp a b = c
  generalize fCmpOk a b = t
  have d1 : (t == t) = true := by cases t <;> rfl
  go_wp2_with fail
  refine (canon_c a ha' w1).mono ?_
  rintro e w' ⟨rfl, rfl⟩
  go_wp2_with fail
  refine (rCanon_c a ha' w1).mono ?_
  rintro e w' ⟨rfl, rfl⟩
  generalize fCanon a = x
  go_wp2_with fail
  refine (canon_c b hb' w1).mono ?_
  rintro e w' ⟨rfl, rfl⟩
  go_wp2_with fail
  refine (rCanon_c b hb' w1).mono ?_
  rintro e w' ⟨rfl, rfl⟩
  generalize fCanon b = y
  go_wp2
  go_ret
  exact ⟨rfl, hbel⟩
end Go.Proofs.YtecafgonofjglaaDoor
