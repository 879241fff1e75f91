/- What value.Right returns: whether a value is right. -/
import Derived.Test.YtfjpnkchldjjmaaGreatDoorVlMath
import Derived.Test.YtfjpnkchldjjmaaGreatDoorFlW1
import Derived.BigQuiet
namespace Go.Proofs.YtfjpnkchldjjmaaGreatDoor
open Go.RowKit

theorem bel1 (w : World) (o : Obj) : Below w.heap.size w (w.alloc o) := (Below.refl _ _).alloc (Nat.le_refl _) o
theorem bdN {B : Nat} {a w : World} (n : Nat) (h : Below B a w) : Below B a (w.drewN n) := ⟨h.os, h.tape, h.output, h.size, h.block⟩
theorem vR0 (n : Int) (s : List UInt8) (f : Nat) : vRight (0, n, s, f) = (n == 0 && s == [] && f == 0) := rfl
theorem vR1 (n : Int) (s : List UInt8) (f : Nat) : vRight (1, n, s, f) = (s == [] && f == 0) := rfl
theorem vR2 (n : Int) (s : List UInt8) (f : Nat) : vRight (2, n, s, f) = (s == [] && f == 0 && (n == 0 || n == 1)) := rfl
theorem vR3 (n : Int) (s : List UInt8) (f : Nat) : vRight (3, n, s, f) = (n == 0 && f == 0 && decide (s.length ≤ 64)) := rfl
theorem vR4 (n : Int) (s : List UInt8) (f : Nat) : vRight (4, n, s, f) = (n == 0 && s == [] && fCanon f == f) := rfl
theorem vRx (k n : Int) (s : List UInt8) (f : Nat) (h0 : k ≠ 0) (h1 : k ≠ 1) (h2 : k ≠ 2) (h3 : k ≠ 3) (h4 : k ≠ 4) : vRight (k, n, s, f) = false := by
  unfold vRight
  exact (if_neg h0).trans ((if_neg h1).trans ((if_neg h2).trans ((if_neg h3).trans (if_neg h4))))
theorem retb {a b : Bool} (h : b = a) : Ending.returned (.bool a) = .returned (.bool b) := by rw [h]
theorem right_c0 (k n : Int) (s : List UInt8) (f : Nat) (w : World) (hk : k ≠ 4) :
    Calls Tryz.prog 32 #[(.agg #[.int .i64 (k), .int .i64 (n), .string (str (s)), .int .u64 ((f : Nat) : Int)])] w fun e w' => e = .returned (.bool (vRight (k, n, s, f))) ∧ Below w.heap.size w w' := by
  have hs := str_list s
  have hz := str_size s
  by_cases k0 : k = 0
  · subst k0
    go_enter Tryz.func32, Tryz.ntmps32
    go_wp2
    all_goals go_ret
    all_goals refine ⟨retb ?_, bel1 _ _⟩
    all_goals rw [vR0]
    all_goals simp_all
  by_cases k1 : k = 1
  · subst k1
    go_enter Tryz.func32, Tryz.ntmps32
    go_wp2
    all_goals go_ret
    all_goals refine ⟨retb ?_, bel1 _ _⟩
    all_goals rw [vR1]
    all_goals simp_all
  by_cases k2 : k = 2
  · subst k2
    go_enter Tryz.func32, Tryz.ntmps32
    go_wp2
    all_goals go_ret
    all_goals refine ⟨retb ?_, bel1 _ _⟩
    all_goals rw [vR2]
    all_goals simp_all
  by_cases k3 : k = 3
  · subst k3
    go_enter Tryz.func32, Tryz.ntmps32
    go_wp2
    all_goals go_ret
    all_goals refine ⟨retb ?_, bel1 _ _⟩
    all_goals rw [vR3]
    all_goals simp_all
    all_goals omega
  have d0 : (k == 0) = false := by simpa using k0
  have d1 : (k == 1) = false := by simpa using k1
  have d2 : (k == 2) = false := by simpa using k2
  have d3 : (k == 3) = false := by simpa using k3
  have d4 : (k == 4) = false := by simpa using hk
  go_enter Tryz.func32, Tryz.ntmps32
  go_wp2
  all_goals go_ret
  all_goals exact ⟨retb (vRx k n s f k0 k1 k2 k3 hk), bel1 _ _⟩
theorem right_c4 (n : Int) (s : List UInt8) (f : Nat) (hf : f < 18446744073709551616) (w : World) :
    Calls Tryz.prog 32 #[(.agg #[.int .i64 (4), .int .i64 (n), .string (str (s)), .int .u64 ((f : Nat) : Int)])] w fun e w' => e = .returned (.bool (vRight (4, n, s, f))) ∧ Below w.heap.size w w' := by
  have hs := str_list s
  obtain ⟨g, hg⟩ : ∃ g, g = fCanon f := ⟨_, rfl⟩
  have hc : ∀ wx, Calls Tryz.prog 51 #[.int .u64 (f : Int)] wx fun e w' => e = .returned (.int .u64 (g : Int)) ∧ w' = wx := fun wx => (canon_c f hf wx).mono fun _ _ h => ⟨by rw [hg]; exact h.1, h.2.symm⟩
  have HC := hid hc
  have HG := hid hg
  clear hc hg
  by_cases hn : n = 0
  · subst hn
    by_cases h2 : s = []
    · subst h2
      by_cases h3 : f = g
      · have HR : Hid (vRight (4, 0, [], f) = true) := hid (by rw [vR4, ← HG.out, ← h3]; simp)
        have d3 : ((f : Int) == (g : Int)) = true := by simp [h3]
        have d4 : (f == g) = true := by simpa using h3
        clear h3
        go_enter Tryz.func32, Tryz.ntmps32
        go_wp2_with fail
        go_quiet (first | (go_at_call 51; refine Calls.quiet_of_same (HC.out _)))
        go_wp2
        go_ret
        exact ⟨retb HR.out, bdN _ (bel1 _ _)⟩
      · have HR : Hid (vRight (4, 0, [], f) = false) := hid (by rw [vR4, ← HG.out]; simp; omega)
        have d3 : ((f : Int) == (g : Int)) = false := by simp; omega
        have d4 : (f == g) = false := by simpa using h3
        clear h3 hs
        go_enter Tryz.func32, Tryz.ntmps32
        go_wp2_with fail
        go_quiet (first | (go_at_call 51; refine Calls.quiet_of_same (HC.out _)))
        go_wp2
        go_ret
        exact ⟨retb HR.out, bdN _ (bel1 _ _)⟩
    · have HR : Hid (vRight (4, 0, s, f) = false) := hid (by rw [vR4]; simp [h2])
      have d3 : ((str s).toList == []) = false := by rw [hs]; simpa using h2
      clear h2 hs
      go_enter Tryz.func32, Tryz.ntmps32
      go_wp2_with fail
      go_quiet (first | (go_at_call 51; refine Calls.quiet_of_same (HC.out _)))
      go_wp2
      go_ret
      exact ⟨retb HR.out, bdN _ (bel1 _ _)⟩
  · have HR : Hid (vRight (4, n, s, f) = false) := hid (by rw [vR4]; simp [hn])
    have d3 : (n == 0) = false := by simpa using hn
    clear hs
    go_enter Tryz.func32, Tryz.ntmps32
    go_wp2_with fail
    go_quiet (first | (go_at_call 51; refine Calls.quiet_of_same (HC.out _)))
    go_wp2
    go_ret
    exact ⟨retb HR.out, bdN _ (bel1 _ _)⟩
end Go.Proofs.YtfjpnkchldjjmaaGreatDoor
