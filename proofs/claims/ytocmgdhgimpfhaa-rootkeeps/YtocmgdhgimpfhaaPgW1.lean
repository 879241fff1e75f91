/- What stands beside a page on a block: the program's own call. -/
import Derived.Test.YtocmgdhgimpfhaaPgMath
import Derived.Test.YtocmgdhgimpfhaaPkW1
import Derived.LoopN
namespace Go.Proofs.Ytocmgdhgimpfhaa
open Go.RowKit

theorem numb_c (A : Option Addr) (n c : Nat) (x : Int) (l : List UInt8) (w : World) (hr : Bts w 0 w.heap.size A n l) (hn : n ≤ 1000) (h : i64ok x) :
    Calls Try.prog 63 #[.slice A n c, .int .i64 x] w fun e w' => ∃ A' n' c', e = .returned (.slice A' n' c') ∧ Bts w' 0 w'.heap.size A' n' (l ++ num x) ∧ n' ≤ n + 10 ∧ Below w.heap.size w w' := by
  refine (number_c A n c x l w hr (by omega) h.1 h.2).mono ?_
  intro e w' hrow
  obtain ⟨A', n', c', rfl, hl, -, -, hb, hbel⟩ := hrow.out
  have h10 := num_len h
  have := hl.out
  have h2 := hr.len
  rw [List.length_append] at this
  exact ⟨A', n', c', rfl, hb.wide (Nat.zero_le _) (Nat.le_refl _), by unfold num at h10; omega, hbel⟩

set_option maxRecDepth 100000 in
set_option maxHeartbeats 4000000 in
theorem beside_c (p : Pg) (hp : p.wf) (b : Int) (hb : i64ok b) (w : World) :
    Calls Try.prog 54 #[(.agg #[.int .i64 (p).k.t, .int .i64 (p).k.c, .int .i64 (p).k.e, .int .i64 (p).id, .int .i64 (p).ver]), .int .i64 b] w fun e w' => e = .returned (.string (str (besd p b))) ∧ Below w.heap.size w w' := by
  have i0 : ∀ wx, (Instr.index 122 (.agg #[.int .i64 p.k.t, .int .i64 p.k.c, .int .i64 p.k.e, .int .i64 p.id, .int .i64 p.ver, .int .i64 b]) (.int .i64 0)).run Try.prog wx = .ok (.int .i64 p.k.t) wx := fun _ => by kernel_rfl
  have i1 : ∀ wx, (Instr.index 122 (.agg #[.int .i64 p.k.t, .int .i64 p.k.c, .int .i64 p.k.e, .int .i64 p.id, .int .i64 p.ver, .int .i64 b]) (.int .i64 1)).run Try.prog wx = .ok (.int .i64 p.k.c) wx := fun _ => by kernel_rfl
  have i2 : ∀ wx, (Instr.index 122 (.agg #[.int .i64 p.k.t, .int .i64 p.k.c, .int .i64 p.k.e, .int .i64 p.id, .int .i64 p.ver, .int .i64 b]) (.int .i64 2)).run Try.prog wx = .ok (.int .i64 p.k.e) wx := fun _ => by kernel_rfl
  have i3 : ∀ wx, (Instr.index 122 (.agg #[.int .i64 p.k.t, .int .i64 p.k.c, .int .i64 p.k.e, .int .i64 p.id, .int .i64 p.ver, .int .i64 b]) (.int .i64 3)).run Try.prog wx = .ok (.int .i64 p.id) wx := fun _ => by kernel_rfl
  have i4 : ∀ wx, (Instr.index 122 (.agg #[.int .i64 p.k.t, .int .i64 p.k.c, .int .i64 p.k.e, .int .i64 p.id, .int .i64 p.ver, .int .i64 b]) (.int .i64 4)).run Try.prog wx = .ok (.int .i64 p.ver) wx := fun _ => by kernel_rfl
  have i5 : ∀ wx, (Instr.index 122 (.agg #[.int .i64 p.k.t, .int .i64 p.k.c, .int .i64 p.k.e, .int .i64 p.id, .int .i64 p.ver, .int .i64 b]) (.int .i64 5)).run Try.prog wx = .ok (.int .i64 b) wx := fun _ => by kernel_rfl
  have HP := hid hp
  have HI := hid hb
  have HB0 : Hid (Below w.heap.size w (w.alloc (.cells #[.int .i64 p.k.t, .int .i64 p.k.c, .int .i64 p.k.e, .int .i64 p.id, .int .i64 p.ver] 89))) := hid ((Below.refl _ _).alloc (Nat.le_refl _) _)
  have HE : Hid (besd p b = num p.k.t ++ (num p.k.c ++ (num p.k.e ++ (num p.id ++ (num p.ver ++ num b))))) := hid (by simp only [besd, List.append_assoc])
  clear hp hb
  go_enter Try.func54, Try.ntmps54
  go_wp2_with fail
  refine wp_loop_rounds 7 ?_
  rw [rounds_succ]
  go_wp2_with fail
  refine (numb_c _ _ _ _ _ _ (Bts.nil _ _ _ _) (by omega) HP.out.1.1).mono ?_
  rintro e w1 ⟨A1, n1, c1, rfl, hb1, hn1, hw1⟩
  have HB1 := hid hb1
  have HN1 := hid hn1
  have HW1 := hid (HB0.out.trans (hw1.mono HB0.out.size))
  clear hb1 hn1 hw1 HB0
  go_wp2_with fail
  rw [rounds_succ]
  go_wp2_with fail
  refine (numb_c _ _ _ _ _ _ HB1.out (by have := HN1.out; omega) HP.out.1.2.1).mono ?_
  rintro e w2 ⟨A2, n2, c2, rfl, hb2, hn2, hw2⟩
  have HB2 := hid hb2
  have HN2 : Hid (n2 ≤ 20) := hid (by have := HN1.out; omega)
  have HW2 := hid (HW1.out.trans (hw2.mono HW1.out.size))
  clear hb2 hn2 hw2 HB1 HN1 HW1
  go_wp2_with fail
  rw [rounds_succ]
  go_wp2_with fail
  refine (numb_c _ _ _ _ _ _ HB2.out (by have := HN2.out; omega) HP.out.1.2.2).mono ?_
  rintro e w3 ⟨A3, n3, c3, rfl, hb3, hn3, hw3⟩
  have HB3 := hid hb3
  have HN3 : Hid (n3 ≤ 30) := hid (by have := HN2.out; omega)
  have HW3 := hid (HW2.out.trans (hw3.mono HW2.out.size))
  clear hb3 hn3 hw3 HB2 HN2 HW2
  go_wp2_with fail
  rw [rounds_succ]
  go_wp2_with fail
  refine (numb_c _ _ _ _ _ _ HB3.out (by have := HN3.out; omega) HP.out.2.1).mono ?_
  rintro e w4 ⟨A4, n4, c4, rfl, hb4, hn4, hw4⟩
  have HB4 := hid hb4
  have HN4 : Hid (n4 ≤ 40) := hid (by have := HN3.out; omega)
  have HW4 := hid (HW3.out.trans (hw4.mono HW3.out.size))
  clear hb4 hn4 hw4 HB3 HN3 HW3
  go_wp2_with fail
  rw [rounds_succ]
  go_wp2_with fail
  refine (numb_c _ _ _ _ _ _ HB4.out (by have := HN4.out; omega) HP.out.2.2).mono ?_
  rintro e w5 ⟨A5, n5, c5, rfl, hb5, hn5, hw5⟩
  have HB5 := hid hb5
  have HN5 : Hid (n5 ≤ 50) := hid (by have := HN4.out; omega)
  have HW5 := hid (HW4.out.trans (hw5.mono HW4.out.size))
  clear hb5 hn5 hw5 HB4 HN4 HW4
  go_wp2_with fail
  rw [rounds_succ]
  go_wp2_with fail
  refine (numb_c _ _ _ _ _ _ HB5.out (by have := HN5.out; omega) HI.out).mono ?_
  rintro e w6 ⟨A6, n6, c6, rfl, hb6, hn6, hw6⟩
  have HB6 := hid hb6
  have HW6 := hid (HW5.out.trans (hw6.mono HW5.out.size))
  have hst := run_str (P := Try.prog) (c := c6) 44 9 5 Try.underlying44 Try.underlying5 Try.underlying9 HB6.out
  clear hb6 hn6 hw6 HB5 HN5 HW5
  go_wp2_with fail
  rw [rounds_succ]
  go_wp2
  go_ret
  exact ⟨by rw [HE.out]; rfl, HW6.out⟩
end Go.Proofs.Ytocmgdhgimpfhaa
