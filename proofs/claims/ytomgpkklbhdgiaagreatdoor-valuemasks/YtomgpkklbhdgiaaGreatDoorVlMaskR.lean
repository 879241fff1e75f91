/- What value.RightMask and the document's own RightMask and Mask return. -/
import Derived.Test.YtomgpkklbhdgiaaGreatDoorVlMask
import Derived.Test.YtomgpkklbhdgiaaGreatDoorVlW3r
namespace Go.Proofs.YtomgpkklbhdgiaaGreatDoor
open Go.RowKit

def vRM (mk mn k : Int) : Bool := decide (1 ≤ k) && decide (k ≤ 4) && (if mk = 3 then decide (k = 3) && decide (0 ≤ mn) && decide (mn ≤ 64) else (decide (mk = 0) || decide (mk = 1) || decide (mk = 2)) && decide (mn = 0))
theorem rm_no {mk mn k : Int} (h : k ≤ 0 ∨ 4 < k) : vRM mk mn k = false := by
  unfold vRM
  rcases h with h | h
  · rw [decide_eq_false (by omega : ¬ 1 ≤ k)]; rfl
  · rw [decide_eq_false (by omega : ¬ k ≤ 4)]; simp
theorem rm_3 {mn k : Int} (h1 : 1 ≤ k) (h2 : k ≤ 4) : vRM 3 mn k = (decide (k = 3) && decide (0 ≤ mn) && decide (mn ≤ 64)) := by
  unfold vRM
  rw [decide_eq_true h1, decide_eq_true h2, if_pos rfl]; rfl
theorem rm_x {mk mn k : Int} (h1 : 1 ≤ k) (h2 : k ≤ 4) (h3 : mk ≠ 3) : vRM mk mn k = ((decide (mk = 0) || decide (mk = 1) || decide (mk = 2)) && decide (mn = 0)) := by
  unfold vRM
  rw [decide_eq_true h1, decide_eq_true h2, if_neg h3]; rfl
theorem eq_dec (x y : Int) : (x == y) = decide (x = y) := by rw [Bool.eq_iff_iff]; simp
theorem ne_dec (x y : Int) : (x != y) = !decide (x = y) := by rw [Bool.eq_iff_iff]; simp

set_option maxHeartbeats 2000000 in
theorem rightMask_c (mk mn k : Int) (w : World) :
    Calls Tryz.prog 30 #[.agg #[.int .i64 mk, .int .i64 mn], .int .i64 k] w fun e w' => e = .returned (.bool (vRM mk mn k)) ∧ Below w.heap.size w w' := by
  by_cases hk : k ≤ 0 ∨ 4 < k
  · have HE : Hid (vRM mk mn k = false) := hid (rm_no hk)
    rcases hk with h | h
    · have d1 : decide (k ≤ 0) = true := by simpa using h
      go_enter Tryz.func30, Tryz.ntmps30
      go_wp2
      go_ret
      exact ⟨retb HE.out, bel1 _ _⟩
    · have d1 : decide (k ≤ 0) = false := by simp; omega
      have d2 : decide (4 < k) = true := by simpa using h
      go_enter Tryz.func30, Tryz.ntmps30
      go_wp2
      go_ret
      exact ⟨retb HE.out, bel1 _ _⟩
  have k1 : 1 ≤ k := by omega
  have k2 : k ≤ 4 := by omega
  have d1 : decide (k ≤ 0) = false := by simp; omega
  have d2 : decide (4 < k) = false := by simp; omega
  by_cases m3 : mk = 3
  · subst m3
    have HE := hid (rm_3 (mn := mn) k1 k2)
    clear hk k1 k2
    cases h1 : decide (k = 3) <;> cases h2 : decide (0 ≤ mn) <;> cases h3 : decide (mn ≤ 64)
    all_goals (
      rw [h1, h2, h3] at HE
      have h1' : (k == 3) = _ := (eq_dec k 3).trans h1
      clear h1
      go_enter Tryz.func30, Tryz.ntmps30
      go_wp2
      go_ret
      exact ⟨retb HE.out, bel1 _ _⟩)
  · have HE := hid (rm_x (mk := mk) (mn := mn) k1 k2 m3)
    have t3 : (mk == 3) = false := by simpa using m3
    clear hk k1 k2 m3
    cases h0 : decide (mk = 0) <;> cases h1 : decide (mk = 1) <;> cases h2 : decide (mk = 2)
    all_goals (
      rw [h0, h1, h2] at HE
      have h0' : (mk == 0) = _ := (eq_dec mk 0).trans h0
      have h1' : (mk == 1) = _ := (eq_dec mk 1).trans h1
      have h2' : (mk == 2) = _ := (eq_dec mk 2).trans h2
      have h3' := eq_dec mn 0
      clear h0 h1 h2
      go_enter Tryz.func30, Tryz.ntmps30
      go_wp2
      go_ret
      exact ⟨retb (by first | exact HE.out | (rw [HE.out]; simp)), bel1 _ _⟩)
set_option maxHeartbeats 4000000 in
theorem rrightMask_c (mk mn k : Int) (w : World) :
    Calls Tryz.prog 31 #[.agg #[.int .i64 mk, .int .i64 mn], .int .i64 k] w fun e w' => e = .returned (.bool (vRM mk mn k)) ∧ Below w.heap.size w w' := by
  by_cases hk : k ≤ 0 ∨ 4 < k
  · have HE : Hid (vRM mk mn k = false) := hid (rm_no hk)
    have d1 : (k != 1) = true := by simp; omega
    have d2 : (k != 2) = true := by simp; omega
    have d3 : (k != 3) = true := by simp; omega
    have d4 : (k != 4) = true := by simp; omega
    clear hk
    go_enter Tryz.func31, Tryz.ntmps31
    go_wp2
    go_ret
    exact ⟨retb HE.out, bel1 _ _⟩
  have k1 : 1 ≤ k := by omega
  have k2 : k ≤ 4 := by omega
  have hk4 : k = 1 ∨ k = 2 ∨ k = 3 ∨ k = 4 := by omega
  by_cases m3 : mk = 3
  · subst m3
    have HE := hid (rm_3 (mn := mn) k1 k2)
    clear hk k1 k2
    cases h2 : decide (0 ≤ mn) <;> cases h3 : decide (mn ≤ 64)
    all_goals (
      rw [h2, h3] at HE
      rcases hk4 with rfl | rfl | rfl | rfl
      all_goals (
        go_enter Tryz.func31, Tryz.ntmps31
        go_wp2
        go_ret
        exact ⟨retb HE.out, bel1 _ _⟩))
  · have HE := hid (rm_x (mk := mk) (mn := mn) k1 k2 m3)
    have t3 : (mk == 3) = false := by simpa using m3
    clear hk k1 k2 m3
    cases h0 : decide (mk = 0) <;> cases h1 : decide (mk = 1) <;> cases h2 : decide (mk = 2)
    all_goals (
      rw [h0, h1, h2] at HE
      have h0' : (mk == 0) = _ := (eq_dec mk 0).trans h0
      have h1' : (mk == 1) = _ := (eq_dec mk 1).trans h1
      have h2' : (mk == 2) = _ := (eq_dec mk 2).trans h2
      have h3' := eq_dec mn 0
      clear h0 h1 h2
      rcases hk4 with rfl | rfl | rfl | rfl
      all_goals (
        go_enter Tryz.func31, Tryz.ntmps31
        go_wp2
        go_ret
        exact ⟨retb (by first | exact HE.out | (rw [HE.out]; simp)), bel1 _ _⟩))
end Go.Proofs.YtomgpkklbhdgiaaGreatDoor
