/- What the statements of package float ask ahead of everything else (their function first) is answered: true, and nothing that was there has turned. -/
import Derived.Test.YtecafgonofjglaaDoorFlRd
namespace Go.Proofs.YtecafgonofjglaaDoor
open Go.RowKit

theorem f_nz : fPrint 9223372036854775808 = tNz := by unfold fPrint; rw [show fNan 9223372036854775808 = false by decide]; rfl
theorem p_nz : fParse [45, 48, 46] = some 9223372036854775808 := by
  have h := fParse_print (v := 9223372036854775808) (by omega)
  rw [f_nz] at h
  exact h
theorem w_3 : fWhole 4613937818241073152 = some 3 := by decide
theorem f_3 : fPrint 4613937818241073152 = [51, 46] := by
  rw [fPrint_not (by decide), w_3, if_neg (by decide), if_neg (by decide), if_neg (by decide)]
  show digI 3 ++ [46] = _
  unfold digI
  rw [if_neg (by decide), dig_small (by decide)]
  decide
theorem f_half : fPrint 4602678819172646912 = [48, 120, 51, 102, 101, 48, 48, 48, 48, 48, 48, 48, 48, 48, 48, 48, 48, 48] := by
  rw [fPrint_not (by decide), show fWhole 4602678819172646912 = none by decide, if_neg (by decide), if_neg (by decide), if_neg (by decide)]
  decide
set_option maxHeartbeats 1000000 in
theorem first_c (w : World) (hw : Lw w) : Calls Tryd.prog 11 #[] w fun e w' => e = .returned (.bool true) ∧ Below w.heap.size w w' := by
  have HW := hid hw
  clear hw
  go_enter Tryd.func11, Tryd.ntmps11
  go_wp2_with fail
  refine (compare_c 9221120237041090560 9221120237041090560 (by omega) (by omega) w).mono ?_
  rintro e w1 ⟨rfl, rfl⟩
  rw [show fCmpOk 9221120237041090560 9221120237041090560 = false by decide]
  go_wp2_with fail
  refine (toInt_c 4613937818241073152 (by omega) w).mono ?_
  rintro e w1 ⟨rfl, rfl⟩
  rw [w_3]
  go_wp2_with fail
  refine (parse_c [45, 48, 46] (by decide) w HW.out).mono ?_
  rintro e w1 ⟨rfl, hb⟩
  rw [p_nz]
  have hw1 := HW.out.below hb
  go_wp2_with fail
  refine (print_c 4613937818241073152 (by omega) w1 hw1).mono ?_
  rintro e w2 ⟨rfl, hb2⟩
  rw [f_3]
  have hw2 := hw1.below hb2
  have hb3 := hb.trans (hb2.mono hb.size)
  clear hw1 hb hb2
  have s1 : ((str [51, 46]).toList == [51, 46]) = true := by rw [str_list]; decide
  go_wp2_with fail
  refine (print_c 4602678819172646912 (by omega) w2 hw2).mono ?_
  rintro e w3 ⟨rfl, hb4⟩
  rw [f_half]
  have hb5 := hb3.trans (hb4.mono hb3.size)
  clear hw2 hb3 hb4
  have s2 : ((str [48, 120, 51, 102, 101, 48, 48, 48, 48, 48, 48, 48, 48, 48, 48, 48, 48, 48]).toList == [48, 120, 51, 102, 101, 48, 48, 48, 48, 48, 48, 48, 48, 48, 48, 48, 48, 48]) = true := by rw [str_list]; decide
  go_wp2_with fail
  refine (canon_c 18442240474082181121 (by omega) w3).mono ?_
  rintro e w4 ⟨rfl, rfl⟩
  rw [show fCanon 18442240474082181121 = 9221120237041090560 by decide]
  go_wp2
  go_ret
  exact ⟨rfl, hb5⟩
end Go.Proofs.YtecafgonofjglaaDoor
