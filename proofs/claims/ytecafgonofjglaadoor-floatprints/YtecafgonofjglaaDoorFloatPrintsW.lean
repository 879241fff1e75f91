/- The walk of FloatPrints: for every float the law answers true. -/
import Derived.Test.YtecafgonofjglaaDoorFlFirst
import Derived.Test.YtecafgonofjglaaDoorFlR3
namespace Go.Proofs.YtecafgonofjglaaDoor
open Go.RowKit

theorem fPrint_len {u : Nat} (hu : u < 18446744073709551616) : (fPrint u).length ≤ 281474976710656 := by
  cases hn : fNan u
  · rw [fPrint_not hn]
    (repeat' split)
    · decide
    · decide
    · decide
    · rename_i n hw
      have := digI_len (fWhole_some hu hw).1
      simp; omega
    · simp [hexk_len]
  · rw [fPrint_nan hn]; decide
set_option maxHeartbeats 2000000 in
theorem walkFloatPrints (u0 : Int) (w : World) (hu0 : (Lit.int .u64 u0).wf = true) (hw : Lw w) :
    Calls Tryd.prog 6 #[.int .u64 u0] w fun e w' => e = .returned (.bool true) ∧ Below w.heap.size w w' := by
  obtain ⟨a1, a2⟩ := wf_u64 hu0
  obtain ⟨u, rfl⟩ : ∃ u : Nat, u0 = (u : Int) := ⟨u0.toNat, by omega⟩
  have hu : u < 18446744073709551616 := by omega
  have HW := hid hw
  clear hw hu0 a1 a2
  have hlen := fPrint_len hu
  have HP := hid (fParse_print hu)
  have s1 : ((str (fPrint u)).toList == (str (fPrint u)).toList) = true := by rw [str_list]; simp
  go_enter Tryd.func6, Tryd.ntmps6
  go_wp2_with fail
  refine (first_c w HW.out).mono ?_
  rintro e w1 ⟨rfl, hbel⟩
  have HW1 := hid (HW.out.below hbel)
  go_wp2_with fail
  refine (print_c u hu w1 HW1.out).mono ?_
  rintro e w2 ⟨rfl, hb2⟩
  have HW2 := hid (HW1.out.below hb2)
  have hbel2 := hbel.trans (hb2.mono hbel.size)
  clear hb2 hbel
  go_wp2_with fail
  refine (parse_c (fPrint u) hlen w2 HW2.out).mono ?_
  rintro e w3 ⟨rfl, hb3⟩
  rw [HP.out]
  have hbel3 := hbel2.trans (hb3.mono hbel2.size)
  clear hb3 hbel2
  go_wp2_with fail
  refine (rPrint_c u hu w3).mono ?_
  rintro e w4 ⟨rfl, hb4⟩
  have hbel4 := hbel3.trans (hb4.mono hbel3.size)
  clear hb4 hbel3
  go_wp2_with fail
  refine (rCanon_c u hu w4).mono ?_
  rintro e w' ⟨rfl, rfl⟩
  go_wp2
  go_ret
  exact ⟨rfl, hbel4⟩
end Go.Proofs.YtecafgonofjglaaDoor
