/- What strongroomlaw12.first returns: yes. Nothing is assumed. -/
import Derived.Test.YtejmllpffocneaaBtPu
import Derived.Test.YtejmllpffocneaaBtRg
import Derived.Test.YtejmllpffocneaaRuR
import Derived.Test.YtejmllpffocneaaIntF
namespace Go.Proofs.Ytejmllpffocneaa
open Go.RowKit Go.ChangeShapes Go.WideShapes Go.ChangeAt

theorem bf_i64 : i64s [10, 12, 11] := fun x hx => by
  unfold i64r
  simp at hx
  omega
theorem bf_put : btP [10, 12, 11] = [20, 2, 24] := by
  have e1 : mnL [10, 12, 11] = 10 := by decide
  have e2 : mxL [10, 12, 11] = 12 := by decide
  have e3 : wdL [10, 12, 11] = 2 := by unfold wdL; rw [e1, e2]; decide
  rw [btP_of (by decide)]
  unfold btB
  rw [e1, e3, nat_small (by decide)]
  decide
theorem bf_yes : BtG [20, 2, 24] 3 [10, 12, 11] true := by
  have := BtG.put bf_i64 (by decide)
  rwa [bf_put] at this
theorem bf_no : BtG [20, 3, 24] 2 [] false := by
  have e0 : rd [20, 3, 24] = (20, 1) := by decide
  have e1 : hL [20, 3, 24] = 10 := by unfold hL; rw [e0]; decide
  have e2 : hW [20, 3, 24] = 3 := by unfold hW; rw [e0]; rfl
  have e3 : hB [20, 3, 24] = [24] := by unfold hB; rw [e0]; rfl
  have n0 : nbd [24] 3 0 = 0 := by decide +kernel
  have n1 : nbd [24] 3 1 = 3 := by decide +kernel
  have e4 : outL [20, 3, 24] 2 = [10, 13] := by
    unfold outL
    rw [e1, e2, e3]
    show [wrap64 (10 + ((nbd [24] 3 0 : Nat) : Int)), wrap64 (10 + ((nbd [24] 3 1 : Nat) : Int))] = _
    rw [n0, n1, w64_id (by unfold i64r; omega), w64_id (by unfold i64r; omega)]
    decide
  have e5 : wdL [10, 13] = 2 := by decide
  exact BtG.no4 (n := 2) (by decide) (.inr (by rw [e4, e5, e2]; decide))
set_option maxRecDepth 100000 in
set_option maxHeartbeats 16000000 in
theorem btfirst_c (w : World) : Calls Try.prog 6 #[] w fun e w' => e = .returned (.bool true) ∧ Below w.heap.size w w' := by
  go_enter Try.func6, Try.ntmps6
  have kc := conv1R w #[.int .u8 20, .int .u8 2, .int .u8 24] 3 3
  go_wp2_with fail
  clear kc
  refine (btget_c (bts_litR w [20, 2, 24] _) (by decide) (by decide) 3 (by decide)).mono ?_
  rintro e w1 ⟨l1, ok1, A1, c1, rfl, hg1, ho1, hc1, hb1⟩
  obtain ⟨rfl, rfl⟩ := bf_yes.isIt hg1
  have HB1 : Hid (Below w.heap.size w w1) := hid (((Below.refl _ _).alloc (Nat.le_refl _) _).trans (hb1.mono (by simp)))
  have HO1 := hid ho1
  clear ho1 hb1 hg1 hc1
  have kc := conv1R w1 #[.int .u8 20, .int .u8 3, .int .u8 24] 3 3
  go_wp2_with fail
  clear kc
  refine (btget_c (bts_litR w1 [20, 3, 24] _) (by decide) (by decide) 2 (by decide)).mono ?_
  rintro e w2 ⟨l2, ok2, A2, c2, rfl, hg2, -, -, hb2⟩
  obtain ⟨rfl, rfl⟩ := bf_no.isIt hg2
  have hb12 : Below w1.heap.size w1 w2 := ((Below.refl _ _).alloc (Nat.le_refl _) _).trans (hb2.mono (by simp))
  have HB2 : Hid (Below w.heap.size w w2) := hid (HB1.out.trans (hb12.mono HB1.out.size))
  have HO2 := hid ((HO1.out.below hb12 (Nat.le_refl _)).wide (Nat.le_refl _) hb12.size)
  clear hb2 hb12 HO1 HB1 hg2
  go_wp2_with fail
  refine (btput_c (ics_lit w2 [10, 12, 11]) (by decide) (by decide) bf_i64).mono ?_
  rintro e w3 ⟨A3, c3, rfl, hc3, ho3, hb3⟩
  have hb23 : Below w2.heap.size w2 w3 := ((Below.refl _ _).alloc (Nat.le_refl _) _).trans (hb3.mono (by simp))
  have HB3 : Hid (Below w.heap.size w w3) := hid (HB2.out.trans (hb23.mono HB2.out.size))
  have HO3 := hid ((HO2.out.below hb23 (Nat.le_refl _)).wide (Nat.le_refl _) hb23.size)
  have hst := bt_str (c := c3) (Bts.own ho3)
  rw [bf_put] at hst ⊢
  have hst2 : (convert 24 9 (.slice A3 3 c3)).run Try.prog w3 = .ok (.string ⟨#[20, 2, 24]⟩) w3 := hst
  clear hb3 hb23 HO2 HB2 ho3 hst hc3
  go_wp2_with fail
  refine (isame_c (a := [10, 12, 11]) (b := [10, 12, 11]) (HO3.out.keep ?_ |>.wide (Nat.le_refl _) (by simp)) (ics_lit w3 [10, 12, 11]) (by decide) (by decide)).mono ?_
  · intro k _ hk
    exact (Below.refl w3.heap.size w3 |>.alloc (Nat.le_refl _) _).block k hk
  rintro e w4 ⟨rfl, hb4⟩
  have HB4 : Hid (Below w.heap.size w w4) := hid (HB3.out.trans (((Below.refl w3.heap.size w3).alloc (Nat.le_refl _) _).trans (hb4.mono (by simp)) |>.mono HB3.out.size))
  clear hb4 HB3 HO3 hst2
  go_wp2
  go_ret
  exact ⟨rfl, HB4.out⟩
end Go.Proofs.Ytejmllpffocneaa
