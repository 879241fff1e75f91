/- The walk of FloatParses: for every text the law answers true. -/
import Derived.Test.YtecafgonofjglaaDoorFlFirst
import Derived.Test.YtecafgonofjglaaDoorFlR4
namespace Go.Proofs.YtecafgonofjglaaDoor
open Go.RowKit

set_option maxHeartbeats 2000000 in
theorem walkFloatParses (s : ByteArray) (w : World) (hs : s.size ≤ maxLen) (hw : Lw w) :
    Calls Tryd.prog 7 #[.string s] w fun e w' => e = .returned (.bool true) ∧ Below w.heap.size w w' := by
  obtain ⟨l, rfl⟩ : ∃ l, s = str l := ⟨s.data.toList, (str_of s).symm⟩
  rw [str_size] at hs
  have HW := hid hw
  clear hw hs
  by_cases hl : 300 < l.length
  · have d1 : decide ((300 : Int) < ((str l).size : Int)) = true := by rw [str_size]; simp; omega
    have d2 : decide (300 < (str l).size) = true := by rw [str_size]; simpa using hl
    clear hl
    go_enter Tryd.func7, Tryd.ntmps7
    go_wp2_with fail
    refine (first_c w HW.out).mono ?_
    rintro e w1 ⟨rfl, hbel⟩
    go_wp2
    go_ret
    exact ⟨rfl, hbel⟩
  · have d1 : decide ((300 : Int) < ((str l).size : Int)) = false := by rw [str_size]; simp; omega
    have d2 : decide (300 < (str l).size) = false := by rw [str_size]; simpa using hl
    have hll : l.length ≤ 281474976710656 := by omega
    clear hl
    go_enter Tryd.func7, Tryd.ntmps7
    go_wp2_with fail
    refine (first_c w HW.out).mono ?_
    rintro e w1 ⟨rfl, hbel⟩
    have HW1 := hid (HW.out.below hbel)
    go_wp2_with fail
    refine (parse_c l hll w1 HW1.out).mono ?_
    rintro e w2 ⟨rfl, hb2⟩
    have hbel2 := hbel.trans (hb2.mono hbel.size)
    clear hb2 hbel
    go_wp2_with fail
    refine (rParse_c l hll w2).mono ?_
    rintro e w3 ⟨hb3, u, rfl, hu⟩
    have hbel3 := hbel2.trans (hb3.mono hbel2.size)
    clear hb3 hbel2
    cases hp : fParse l with
    | none =>
      clear hu hp
      go_wp2
      go_ret
      exact ⟨rfl, hbel3⟩
    | some v =>
      obtain rfl := hu v hp
      clear hu hp
      go_wp2
      go_ret
      exact ⟨rfl, hbel3⟩
end Go.Proofs.YtecafgonofjglaaDoor
