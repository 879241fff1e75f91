/- The walk of FloatTexts: for every two floats and every text the law answers true. -/
import Derived.Test.YtecafgonofjglaaDoorFlFirst
namespace Go.Proofs.YtecafgonofjglaaDoor
open Go.RowKit

set_option maxHeartbeats 4000000 in
theorem walkFloatTexts (a0 b0 : Int) (s : ByteArray) (w : World) (ha : (Lit.int .u64 a0).wf = true) (hb : (Lit.int .u64 b0).wf = true) (hs : s.size ≤ maxLen) (hw : Lw w) :
    Calls Tryd.prog 10 #[.int .u64 a0, .int .u64 b0, .string s] w fun e w' => e = .returned (.bool true) ∧ Below w.heap.size w w' := by
  obtain ⟨a1, a2⟩ := wf_u64 ha
  obtain ⟨b1, b2⟩ := wf_u64 hb
  obtain ⟨a, rfl⟩ : ∃ a : Nat, a0 = (a : Int) := ⟨a0.toNat, by omega⟩
  obtain ⟨b, rfl⟩ : ∃ b : Nat, b0 = (b : Int) := ⟨b0.toNat, by omega⟩
  have ha' : a < 18446744073709551616 := by omega
  have hb' : b < 18446744073709551616 := by omega
  obtain ⟨l, rfl⟩ : ∃ l, s = str l := ⟨s.data.toList, (str_of s).symm⟩
  rw [str_size] at hs
  have HW := hid hw
  clear hw ha hb a1 a2 b1 b2 hs
  have deq : (((str (fPrint a)).toList == (str (fPrint b)).toList) == ((fCanon a : Int) == (fCanon b : Int))) = true := by
    rw [str_list, str_list]
    have h := fPrint_inj ha' hb'
    by_cases hc : fCanon a = fCanon b
    · rw [h.2 hc, hc]; simp
    · have h0 : ¬ fPrint a = fPrint b := fun e => hc (h.1 e)
      rw [show (fPrint a == fPrint b) = false by simpa using h0, show ((fCanon a : Int) == (fCanon b : Int)) = false by simp; omega]; rfl
  go_enter Tryd.func10, Tryd.ntmps10
  go_wp2_with fail
  refine (first_c w HW.out).mono ?_
  rintro e w1 ⟨rfl, hbel⟩
  have hw1 := HW.out.below hbel
  have HW1 := hid hw1
  clear hw1
  go_wp2_with fail
  refine (print_c a ha' w1 HW1.out).mono ?_
  rintro e w2 ⟨rfl, hb2⟩
  have HW2 := hid (HW1.out.below hb2)
  have hbel2 := hbel.trans (hb2.mono hbel.size)
  clear hb2 hbel
  go_wp2_with fail
  refine (print_c b hb' w2 HW2.out).mono ?_
  rintro e w3 ⟨rfl, hb3⟩
  have HW3 := hid (HW2.out.below hb3)
  have hbel3 := hbel2.trans (hb3.mono hbel2.size)
  clear hb3 hbel2
  go_wp2_with fail
  refine (canon_c a ha' w3).mono ?_
  rintro e w' ⟨rfl, rfl⟩
  go_wp2_with fail
  refine (canon_c b hb' w3).mono ?_
  rintro e w' ⟨rfl, rfl⟩
  by_cases hl : 300 < l.length
  · have d1 : decide ((300 : Int) < ((str l).size : Int)) = true := by rw [str_size]; simp; omega
    have d2 : decide (300 < (str l).size) = true := by rw [str_size]; simpa using hl
    clear hl
    go_wp2
    go_ret
    exact ⟨rfl, hbel3⟩
  · have d1 : decide ((300 : Int) < ((str l).size : Int)) = false := by rw [str_size]; simp; omega
    have d2 : decide (300 < (str l).size) = false := by rw [str_size]; simpa using hl
    have hll : l.length ≤ 281474976710656 := by omega
    clear hl
    go_wp2_with fail
    refine (parse_c l hll w3 HW3.out).mono ?_
    rintro e w4 ⟨rfl, hb4⟩
    have HW4 := hid (HW3.out.below hb4)
    have hbel4 := hbel3.trans (hb4.mono hbel3.size)
    clear hb4 hbel3
    cases hp : fParse l with
    | none =>
      go_wp2
      go_ret
      exact ⟨rfl, hbel4⟩
    | some u =>
      obtain ⟨p1, p2, p3⟩ := fParse_some hp
      have s1 : ((str (fPrint u)).toList == (str l).toList) = true := by rw [str_list, str_list]; simpa using p1
      have P2 := hid p2
      clear p1 p2 hp
      go_wp2_with fail
      refine (print_c u p3 w4 HW4.out).mono ?_
      rintro e w5 ⟨rfl, hb5⟩
      have hbel5 := hbel4.trans (hb5.mono hbel4.size)
      clear hb5 hbel4
      go_wp2_with fail
      refine (canon_c u p3 w5).mono ?_
      rintro e w' ⟨rfl, rfl⟩
      rw [P2.out]
      go_wp2
      go_ret
      exact ⟨rfl, hbel5⟩
end Go.Proofs.YtecafgonofjglaaDoor
