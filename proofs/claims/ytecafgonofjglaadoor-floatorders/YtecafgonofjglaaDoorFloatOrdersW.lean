/- The walk of FloatOrders: for every three floats the law answers true. -/
import Derived.Test.YtecafgonofjglaaDoorFlFirst
import Derived.Test.YtecafgonofjglaaDoorFlR1
namespace Go.Proofs.YtecafgonofjglaaDoor
open Go.RowKit

theorem fOrd_small (a b : Nat) : -1 ≤ fOrd a b ∧ fOrd a b ≤ 1 := by rcases sgn_cases (fKey a - fKey b) with h | h | h <;> unfold fOrd <;> omega
set_option maxHeartbeats 2000000 in
theorem walkFloatOrders (a0 b0 c0 : Int) (w : World) (ha : (Lit.int .u64 a0).wf = true) (hb : (Lit.int .u64 b0).wf = true) (hc : (Lit.int .u64 c0).wf = true) (hw : Lw w) :
    Calls Tryd.prog 4 #[.int .u64 a0, .int .u64 b0, .int .u64 c0] w fun e w' => e = .returned (.bool true) ∧ Below w.heap.size w w' := by
  obtain ⟨a1, a2⟩ := wf_u64 ha
  obtain ⟨b1, b2⟩ := wf_u64 hb
  obtain ⟨c1, c2⟩ := wf_u64 hc
  obtain ⟨a, rfl⟩ : ∃ a : Nat, a0 = (a : Int) := ⟨a0.toNat, by omega⟩
  obtain ⟨b, rfl⟩ : ∃ b : Nat, b0 = (b : Int) := ⟨b0.toNat, by omega⟩
  obtain ⟨c, rfl⟩ : ∃ c : Nat, c0 = (c : Int) := ⟨c0.toNat, by omega⟩
  have ha' : a < 18446744073709551616 := by omega
  have hb' : b < 18446744073709551616 := by omega
  have hc' : c < 18446744073709551616 := by omega
  have HW := hid hw
  clear hw ha hb hc a1 a2 b1 b2 c1 c2
  obtain ⟨x, hx⟩ : ∃ x, x = fOrd a b := ⟨_, rfl⟩
  obtain ⟨y, hy⟩ : ∃ y, y = fOrd b a := ⟨_, rfl⟩
  obtain ⟨z, hz⟩ : ∃ z, z = fOrd b c := ⟨_, rfl⟩
  obtain ⟨v, hv⟩ : ∃ v, v = fOrd a c := ⟨_, rfl⟩
  have HXY : Hid (y = -x) := hid (by rw [hx, hy, fOrd_turn])
  have HX1 : Hid (-1 ≤ x ∧ x ≤ 1) := hid (by rw [hx]; exact fOrd_small a b)
  have HX0 : Hid (x = 0 ↔ fCanon a = fCanon b) := hid (by rw [hx]; exact fOrd_zero ha' hb')
  have HT : Hid (x ≤ 0 → z ≤ 0 → v ≤ 0) := hid (by rw [hx, hz, hv]; exact fOrd_trans)
  have EX := hid hx
  have EY := hid hy
  have EZ := hid hz
  have EV := hid hv
  clear hx hy hz hv
  have w1 : IntKind.i64.wrap (-y) = x := (IntWalk.i64_in _ (by have := HX1.out; have := HXY.out; omega)).trans (by have := HXY.out; omega)
  have d0 : ∀ t : Bool, (t == t) = true := fun t => by cases t <;> rfl
  have dz : ((x == 0) == ((fCanon a : Int) == (fCanon b : Int))) = true := by
    have h := HX0.out
    by_cases hc : fCanon a = fCanon b
    · rw [h.2 hc, hc]; simp
    · have h0 : ¬ x = 0 := fun e => hc (h.1 e)
      rw [show (x == 0) = false by simpa using h0, show ((fCanon a : Int) == (fCanon b : Int)) = false by simp; omega]; rfl
  go_enter Tryd.func4, Tryd.ntmps4
  go_wp2_with fail
  refine (first_c w HW.out).mono ?_
  rintro e w1' ⟨rfl, hbel⟩
  go_wp2_with fail
  refine (order_c a b ha' hb' _).mono ?_
  rintro e w' ⟨rfl, rfl⟩
  rw [← EX.out]
  go_wp2_with fail
  refine (rOrder_c a b ha' hb' _).mono ?_
  rintro e w' ⟨rfl, rfl⟩
  rw [← EX.out]
  go_wp2_with fail
  refine (order_c a b ha' hb' _).mono ?_
  rintro e w' ⟨rfl, rfl⟩
  rw [← EX.out]
  go_wp2_with fail
  refine (order_c b a hb' ha' _).mono ?_
  rintro e w' ⟨rfl, rfl⟩
  rw [← EY.out]
  go_wp2_with fail
  refine (order_c a b ha' hb' _).mono ?_
  rintro e w' ⟨rfl, rfl⟩
  rw [← EX.out]
  go_wp2_with fail
  refine (canon_c a ha' _).mono ?_
  rintro e w' ⟨rfl, rfl⟩
  go_wp2_with fail
  refine (canon_c b hb' _).mono ?_
  rintro e w' ⟨rfl, rfl⟩
  go_wp2_with fail
  refine (order_c a b ha' hb' _).mono ?_
  rintro e w' ⟨rfl, rfl⟩
  rw [← EX.out]
  by_cases hx0 : x ≤ 0
  · have d1 : decide (x ≤ 0) = true := by simpa using hx0
    go_wp2_with fail
    refine (order_c b c hb' hc' _).mono ?_
    rintro e w' ⟨rfl, rfl⟩
    rw [← EZ.out]
    by_cases hz0 : z ≤ 0
    · have d2 : decide (z ≤ 0) = true := by simpa using hz0
      have d3 : decide (v ≤ 0) = true := by simpa using HT.out hx0 hz0
      clear hx0 hz0
      go_wp2_with fail
      refine (order_c a c ha' hc' _).mono ?_
      rintro e w' ⟨rfl, rfl⟩
      rw [← EV.out]
      go_wp2
      go_ret
      exact ⟨rfl, hbel⟩
    · have d2 : decide (z ≤ 0) = false := by simpa using hz0
      clear hx0 hz0
      go_wp2
      go_ret
      exact ⟨rfl, hbel⟩
  · have d1 : decide (x ≤ 0) = false := by simpa using hx0
    clear hx0
    go_wp2
    go_ret
    exact ⟨rfl, hbel⟩
end Go.Proofs.YtecafgonofjglaaDoor
