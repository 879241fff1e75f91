/- What the document's own answers for package float return, texts aside. -/
import Derived.Test.YtfjpnkchldjjmaaGreatDoorFlW1
namespace Go.Proofs.YtfjpnkchldjjmaaGreatDoor
open Go.RowKit

theorem rparts_c (u : Nat) (hu : u < 18446744073709551616) (w : World) :
    Calls Tryz.prog 69 #[.int .u64 (u : Int)] w fun e w' => e = .returned (.tuple #[.int .u64 (fS u : Int), .int .i64 (fE u : Int), .int .u64 (fM u : Int)]) ∧ w = w' := by
  go_enter Tryz.func69, Tryz.ntmps69
  go_wp2
  refine bodyPost_ret (results_tmp3 rfl _ _ _) rfl ?_
  refine ⟨?_, rfl⟩
  have e1 : ((fS u : Nat) : Int) = (u : Int) / 9223372036854775808 := by unfold fS; omega
  have e2 : ((fE u : Nat) : Int) = (u : Int) / 4503599627370496 % 2048 := by unfold fE; omega
  have e3 : ((fM u : Nat) : Int) = (u : Int) % 4503599627370496 := by unfold fM; omega
  rw [e1, e2, e3]
  rfl

theorem rIsNan_c (u : Nat) (hu : u < 18446744073709551616) (w : World) :
    Calls Tryz.prog 52 #[.int .u64 (u : Int)] w fun e w' => e = .returned (.bool (fNan u)) ∧ w = w' := by
  by_cases h1 : fE u = 2047
  · by_cases h2 : 0 < fM u
    · have hn : fNan u = true := by unfold fNan; simp [h1, h2]
      have d1 : ((fE u : Int) == 2047) = true := by rw [h1]; rfl
      have d2 : decide (0 < fM u) = true := by simpa using h2
      go_enter Tryz.func52, Tryz.ntmps52
      go_wp2_with fail
      refine (rparts_c u hu w).mono ?_
      rintro e w' ⟨rfl, rfl⟩
      go_wp2
      go_ret
      first | exact ⟨rfl, rfl⟩ | exact ⟨by rw [hn]; rfl, rfl⟩
    · have hn : fNan u = false := by unfold fNan; simp [h2]
      have d1 : ((fE u : Int) == 2047) = true := by rw [h1]; rfl
      have d2 : decide (0 < fM u) = false := by simpa using h2
      go_enter Tryz.func52, Tryz.ntmps52
      go_wp2_with fail
      refine (rparts_c u hu w).mono ?_
      rintro e w' ⟨rfl, rfl⟩
      go_wp2
      go_ret
      first | exact ⟨rfl, rfl⟩ | exact ⟨by rw [hn]; rfl, rfl⟩
  · have hn : fNan u = false := by unfold fNan; simp [h1]
    have d1 : ((fE u : Int) == 2047) = false := by simp; omega
    go_enter Tryz.func52, Tryz.ntmps52
    go_wp2_with fail
    refine (rparts_c u hu w).mono ?_
    rintro e w' ⟨rfl, rfl⟩
    go_wp2
    go_ret
    first | exact ⟨rfl, rfl⟩ | exact ⟨by rw [hn]; rfl, rfl⟩

theorem rCanon_c (u : Nat) (hu : u < 18446744073709551616) (w : World) :
    Calls Tryz.prog 34 #[.int .u64 (u : Int)] w fun e w' => e = .returned (.int .u64 (fCanon u : Int)) ∧ w = w' := by
  cases hn : fNan u
  · go_enter Tryz.func34, Tryz.ntmps34
    go_wp2_with fail
    refine (rIsNan_c u hu w).mono ?_
    rintro e w' ⟨rfl, rfl⟩
    rw [hn]
    go_wp2
    go_ret
    exact ⟨by unfold fCanon; rw [hn]; rfl, rfl⟩
  · go_enter Tryz.func34, Tryz.ntmps34
    go_wp2_with fail
    refine (rIsNan_c u hu w).mono ?_
    rintro e w' ⟨rfl, rfl⟩
    rw [hn]
    go_wp2
    go_ret
    exact ⟨by unfold fCanon; rw [hn]; rfl, rfl⟩
end Go.Proofs.YtfjpnkchldjjmaaGreatDoor
