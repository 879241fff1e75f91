/- Two values held against each other by Go's own ==. -/
import Derived.Test.YtfjpnkchldjjmaaGreatDoorVlMath
import Derived.Test.YtfjpnkchldjjmaaGreatDoorFlW1
namespace Go.Proofs.YtfjpnkchldjjmaaGreatDoor
open Go.RowKit

theorem vl_ext {a b : Vl} (h1 : vk a = vk b) (h2 : vn a = vn b) (h3 : vs a = vs b) (h4 : vf a = vf b) : a = b := by
  obtain ⟨k, n, s, f⟩ := a
  obtain ⟨k', n', s', f'⟩ := b
  have e1 : k = k' := h1
  have e2 : n = n' := h2
  have e3 : s = s' := h3
  have e4 : f = f' := h4
  subst e1 e2 e3 e4
  rfl
theorem eq_val (a b : Vl) (wx : World) : (Op.equalIn 10000 26 (.agg #[.int .i64 (vk a), .int .i64 (vn a), .string (str (vs a)), .int .u64 ((vf a : Nat) : Int)]) (.agg #[.int .i64 (vk b), .int .i64 (vn b), .string (str (vs b)), .int .u64 ((vf b : Nat) : Int)])).run Tryz.prog wx = .ok (decide (a = b)) wx := by
  go_simp
  rw [str_list, str_list]
  by_cases h1 : vk a = vk b
  · rw [if_pos h1]
    by_cases h2 : vn a = vn b
    · rw [if_pos h2]
      by_cases h3 : vs a = vs b
      · rw [if_pos h3]
        by_cases h4 : vf a = vf b
        · rw [if_pos (by rw [h4]), vl_ext h1 h2 h3 h4, decide_eq_true rfl]
        · rw [if_neg (by omega), decide_eq_false (fun e => h4 (by rw [e]))]
      · rw [if_neg h3, decide_eq_false (fun e => h3 (by rw [e]))]
    · rw [if_neg h2, decide_eq_false (fun e => h2 (by rw [e]))]
  · rw [if_neg h1, decide_eq_false (fun e => h1 (by rw [e]))]
theorem eq_no {a b : Vl} (h : a ≠ b) (wx : World) : (Op.equalIn 10000 26 (.agg #[.int .i64 (vk a), .int .i64 (vn a), .string (str (vs a)), .int .u64 ((vf a : Nat) : Int)]) (.agg #[.int .i64 (vk b), .int .i64 (vn b), .string (str (vs b)), .int .u64 ((vf b : Nat) : Int)])).run Tryz.prog wx = .ok false wx := by rw [eq_val, decide_eq_false h]
end Go.Proofs.YtfjpnkchldjjmaaGreatDoor
