/- What cmp.Compare of texts and of kinds, and the document's own numbers and texts return. -/
import Derived.Test.YtfjpnkchldjjmaaGreatDoorVlW2
import Derived.Test.YtfjpnkchldjjmaaGreatDoorVlStr
namespace Go.Proofs.YtfjpnkchldjjmaaGreatDoor
open Go.RowKit

theorem cmpK_c (x y : Int) (w : World) : Calls Tryz.prog 43 #[.int .i64 x, .int .i64 y] w fun e w' => e = .returned (.int .i64 (sgn (x - y))) ∧ w = w' := by
  rcases Int.lt_trichotomy x y with h | h | h
  · have h1 : decide (x < y) = true := by simpa using h
    go_enter Tryz.func43, Tryz.ntmps43
    go_wp2
    go_ret
    exact ⟨(by unfold sgn; rw [if_pos (by omega)]; try rfl), rfl⟩
  · subst h
    go_enter Tryz.func43, Tryz.ntmps43
    go_wp2
    go_ret
    exact ⟨by rw [Int.sub_self]; rfl, rfl⟩
  · have h1 : decide (x < y) = false := by simp; omega
    have h2 : decide (y < x) = true := by simpa using h
    go_enter Tryz.func43, Tryz.ntmps43
    go_wp2
    go_ret
    exact ⟨(by unfold sgn; rw [if_neg (by omega), if_neg (by omega)]; try rfl), rfl⟩
theorem cmpS_c (x y : List UInt8) (w : World) : Calls Tryz.prog 38 #[.string (str x), .string (str y)] w fun e w' => e = .returned (.int .i64 (tCmp x y)) ∧ w = w' := by
  have hx := str_list x
  have hy := str_list y
  have hl := less_tCmp x y
  have hg := less_tCmp y x
  have ht := tCmp_turn x y
  rcases tCmp_cases x y with h | h | h
  · have d1 : Op.bytesLess x y = true := by rw [hl, h]; rfl
    have H := hid h
    clear hl hg ht h
    go_enter Tryz.func38, Tryz.ntmps38
    go_wp2
    go_ret
    exact ⟨by rw [H.out]; rfl, rfl⟩
  · obtain rfl := tCmp_zero.1 h
    have d1 : Op.bytesLess x x = false := by rw [hl, h]; rfl
    have H := hid h
    clear hl hg ht h hy
    go_enter Tryz.func38, Tryz.ntmps38
    go_wp2
    go_ret
    exact ⟨by rw [H.out]; rfl, rfl⟩
  · have d1 : Op.bytesLess x y = false := by rw [hl, h]; rfl
    have d2 : Op.bytesLess y x = true := by rw [hg, show tCmp y x = -1 by omega]; rfl
    have d3 : (x == y) = false := by
      rw [beq_eq_false_iff_ne]; intro e; rw [e, tCmp_self] at h; omega
    have d4 : ¬ x = y := by simpa using d3
    have H := hid h
    clear hl hg ht h
    go_enter Tryz.func38, Tryz.ntmps38
    go_wp2
    go_ret
    exact ⟨by rw [H.out]; rfl, rfl⟩
end Go.Proofs.YtfjpnkchldjjmaaGreatDoor
