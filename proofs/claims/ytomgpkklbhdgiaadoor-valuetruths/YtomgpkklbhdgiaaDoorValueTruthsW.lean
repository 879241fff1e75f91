/- The walk of ValueTruths: for every three truths the law answers true; and what the document's own Not and And return. -/
import Derived.Test.YtomgpkklbhdgiaaDoorVlFirst
namespace Go.Proofs.YtomgpkklbhdgiaaDoor
open Go.RowKit

theorem rnot_c (a : Int) (w : World) : Calls Tryd.prog 10 #[.int .i64 a] w fun e w' => e = .returned (.int .i64 (tNot a)) ∧ w' = w := by
  by_cases h0 : a = 0
  · subst h0
    go_enter Tryd.func10, Tryd.ntmps10
    go_wp2
    go_ret
    exact ⟨rfl, rfl⟩
  by_cases h1 : a = 1
  · subst h1
    go_enter Tryd.func10, Tryd.ntmps10
    go_wp2
    go_ret
    exact ⟨rfl, rfl⟩
  have d0 : (a == 0) = false := by simpa using h0
  have d1 : (a == 1) = false := by simpa using h1
  have HE : Hid (tNot a = 2) := hid (by unfold tNot; rw [if_neg h0, if_neg h1])
  go_enter Tryd.func10, Tryd.ntmps10
  go_wp2
  go_ret
  exact ⟨by rw [HE.out]; rfl, rfl⟩
theorem rand_c (a b : Int) (w : World) : Calls Tryd.prog 12 #[.int .i64 a, .int .i64 b] w fun e w' => e = .returned (.int .i64 (tAnd a b)) ∧ w' = w := by
  by_cases h0 : a = 0
  · have d0 : (a == 0) = true := by rw [h0]; rfl
    have HE : Hid (tAnd a b = 0) := hid (by unfold tAnd; exact if_pos (.inl h0))
    clear h0
    go_enter Tryd.func12, Tryd.ntmps12
    go_wp2
    go_ret
    exact ⟨by rw [HE.out]; rfl, rfl⟩
  have d0 : (a == 0) = false := by simpa using h0
  by_cases g0 : b = 0
  · have c0 : (b == 0) = true := by rw [g0]; rfl
    have HE : Hid (tAnd a b = 0) := hid (by unfold tAnd; exact if_pos (.inr g0))
    clear h0 g0
    go_enter Tryd.func12, Tryd.ntmps12
    go_wp2
    go_ret
    exact ⟨by rw [HE.out]; rfl, rfl⟩
  have c0 : (b == 0) = false := by simpa using g0
  by_cases h1 : a = 1
  · have d1 : (a == 1) = true := by rw [h1]; rfl
    by_cases g1 : b = 1
    · have c1 : (b == 1) = true := by rw [g1]; rfl
      have HE : Hid (tAnd a b = 1) := hid (by unfold tAnd; rw [if_neg (by omega), if_pos ⟨h1, g1⟩])
      clear h0 g0 h1 g1
      go_enter Tryd.func12, Tryd.ntmps12
      go_wp2
      go_ret
      exact ⟨by rw [HE.out]; rfl, rfl⟩
    · have c1 : (b == 1) = false := by simpa using g1
      have HE : Hid (tAnd a b = 2) := hid (by unfold tAnd; rw [if_neg (by omega), if_neg (by omega)])
      clear h0 g0 h1 g1
      go_enter Tryd.func12, Tryd.ntmps12
      go_wp2
      go_ret
      exact ⟨by rw [HE.out]; rfl, rfl⟩
  · have d1 : (a == 1) = false := by simpa using h1
    have HE : Hid (tAnd a b = 2) := hid (by unfold tAnd; rw [if_neg (by omega), if_neg (by omega)])
    clear h0 g0 h1
    go_enter Tryd.func12, Tryd.ntmps12
    go_wp2
    go_ret
    exact ⟨by rw [HE.out]; rfl, rfl⟩

set_option maxRecDepth 20000 in
set_option maxHeartbeats 4000000 in
theorem walkValueTruths (a b c : Int) (w : World) (_ : (Lit.int .i64 a).wf = true) (_ : (Lit.int .i64 b).wf = true) (_ : (Lit.int .i64 c).wf = true) (hw : Lw w) :
    Calls Tryd.prog 4 #[.int .i64 a, .int .i64 b, .int .i64 c] w fun e w' => e = .returned (.bool true) ∧ Below w.heap.size w w' := by
  have g1 : (tAnd a (tAnd b c) == tAnd (tAnd a b) c) = true := by rw [tAnd_assoc]; simp
  have g2 : (tAnd a (tOr b c) == tOr (tAnd a b) (tAnd a c)) = true := by rw [tAnd_or]; simp
  have g3 : (tOr a b != tNot (tAnd (tNot a) (tNot b))) = false := by simp [tOr]
  have HW := hid hw
  clear hw
  go_enter Tryd.func4, Tryd.ntmps4
  go_wp2_with fail
  refine (first_c _ HW.out).mono ?_
  rintro e w1 ⟨rfl, hb1⟩
  clear HW
  go_wp2_with fail
  refine (not_c a _).mono ?_
  rintro e w' ⟨rfl, rfl⟩
  go_wp2_with fail
  refine (rnot_c a _).mono ?_
  rintro e w' ⟨rfl, rfl⟩
  go_wp2_with fail
  refine (and_c a b _).mono ?_
  rintro e w' ⟨rfl, rfl⟩
  go_wp2_with fail
  refine (rand_c a b _).mono ?_
  rintro e w' ⟨rfl, rfl⟩
  go_wp2_with fail
  refine (or_c a b _).mono ?_
  rintro e w' ⟨rfl, rfl⟩
  go_wp2_with fail
  refine (rnot_c a _).mono ?_
  rintro e w' ⟨rfl, rfl⟩
  go_wp2_with fail
  refine (rnot_c b _).mono ?_
  rintro e w' ⟨rfl, rfl⟩
  go_wp2_with fail
  refine (rand_c _ _ _).mono ?_
  rintro e w' ⟨rfl, rfl⟩
  go_wp2_with fail
  refine (rnot_c _ _).mono ?_
  rintro e w' ⟨rfl, rfl⟩
  go_wp2_with fail
  refine (and_c b c _).mono ?_
  rintro e w' ⟨rfl, rfl⟩
  go_wp2_with fail
  refine (and_c a _ _).mono ?_
  rintro e w' ⟨rfl, rfl⟩
  go_wp2_with fail
  refine (and_c a b _).mono ?_
  rintro e w' ⟨rfl, rfl⟩
  go_wp2_with fail
  refine (and_c _ c _).mono ?_
  rintro e w' ⟨rfl, rfl⟩
  go_wp2_with fail
  refine (or_c b c _).mono ?_
  rintro e w' ⟨rfl, rfl⟩
  go_wp2_with fail
  refine (and_c a _ _).mono ?_
  rintro e w' ⟨rfl, rfl⟩
  go_wp2_with fail
  refine (and_c a b _).mono ?_
  rintro e w' ⟨rfl, rfl⟩
  go_wp2_with fail
  refine (and_c a c _).mono ?_
  rintro e w' ⟨rfl, rfl⟩
  go_wp2_with fail
  refine (or_c _ _ _).mono ?_
  rintro e w' ⟨rfl, rfl⟩
  go_wp2
  go_ret
  exact ⟨rfl, hb1⟩
end Go.Proofs.YtomgpkklbhdgiaaDoor
