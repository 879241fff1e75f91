/- The walk of FloatInts: for every float and every number the law answers true. -/
import Derived.Test.YtecafgonofjglaaDoorFlFirst
import Derived.Test.YtecafgonofjglaaDoorFlR2
namespace Go.Proofs.YtecafgonofjglaaDoor
open Go.RowKit

set_option maxHeartbeats 2000000 in
theorem walkFloatInts (u0 n : Int) (w : World) (hu0 : (Lit.int .u64 u0).wf = true) (_hn0 : (Lit.int .i64 n).wf = true) (hw : Lw w) :
    Calls Tryd.prog 5 #[.int .u64 u0, .int .i64 n] w fun e w' => e = .returned (.bool true) ∧ Below w.heap.size w w' := by
  obtain ⟨a1, a2⟩ := wf_u64 hu0
  obtain ⟨u, rfl⟩ : ∃ u : Nat, u0 = (u : Int) := ⟨u0.toNat, by omega⟩
  have hu : u < 18446744073709551616 := by omega
  have HW := hid hw
  clear hw hu0 _hn0 a1 a2
  have hfl : fFrom n < 18446744073709551616 := by
    cases hr : inRange n
    · rw [fFrom_no hr]; omega
    · rw [fFrom_is hr]; exact (fOfInt_lt hr).1
  obtain ⟨f, hf⟩ : ∃ f, f = fFrom n := ⟨_, rfl⟩
  rw [← hf] at hfl
  have HF := hid hf
  clear hf
  have d0 : ∀ t : Bool, (t == t) = true := fun t => by cases t <;> rfl
  go_enter Tryd.func5, Tryd.ntmps5
  go_wp2_with fail
  refine (first_c w HW.out).mono ?_
  rintro e w1 ⟨rfl, hbel⟩
  go_wp2_with fail
  refine (toInt_c u hu w1).mono ?_
  rintro e w' ⟨rfl, rfl⟩
  go_wp2_with fail
  refine (rWhole_c u hu w1).mono ?_
  rintro e w' ⟨rfl, rfl⟩
  generalize (fWhole u).getD 0 = x
  generalize (fWhole u).isSome = t
  go_wp2_with fail
  refine (fromInt_c n w1).mono ?_
  rintro e w' ⟨rfl, rfl⟩
  rw [← HF.out]
  go_wp2_with fail
  refine (rFromInt_c n w1).mono ?_
  rintro e w' ⟨rfl, rfl⟩
  rw [← HF.out]
  go_wp2_with fail
  refine (toInt_c f hfl w1).mono ?_
  rintro e w' ⟨rfl, rfl⟩
  cases hr : inRange n
  · generalize (fWhole f).getD 0 = y
    generalize (fWhole f).isSome = s
    go_wp2
    go_ret
    exact ⟨rfl, hbel⟩
  · have hwf : fWhole f = some n := by rw [HF.out, fFrom_is hr]; exact fWhole_of hr
    rw [hwf]
    clear hwf
    go_wp2
    go_ret
    exact ⟨rfl, hbel⟩
end Go.Proofs.YtecafgonofjglaaDoor
