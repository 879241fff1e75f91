/- What stands beside a page on a block, a handle's bytes, the handle of a block's bytes: the document's own calls. -/
import Derived.Test.YtocmgdhgimpfhaaPgHa
import Derived.Test.YtocmgdhgimpfhaaPkRefA
import Derived.Test.YtocmgdhgimpfhaaMemO
import Derived.LoopN
namespace Go.Proofs.Ytocmgdhgimpfhaa
open Go.RowKit

theorem rnumb_c (x : Int) (w : World) (h : i64ok x) :
    Calls Try.prog 64 #[.int .u64 (fold x : Int)] w fun e w' => ∃ A n c, e = .returned (.slice A n c) ∧ Bts w' 0 w'.heap.size A n (num x) ∧ Below w.heap.size w w' := by
  refine (refNatural_c (fold x) (fold x) w (Nat.le_refl _) (fold_lt h.1 h.2)).mono ?_
  intro e w' hrow
  obtain ⟨A', n', c', rfl, hl, -, -, hb, hbel⟩ := hrow.out
  exact ⟨A', n', c', rfl, hb.wide (Nat.zero_le _) (Nat.le_refl _), hbel⟩
theorem cat_str (X Y Z : List UInt8) (h : Z = X ++ Y) : str X ++ str Y = str Z := by rw [h]; exact ByteArray.mk_append_mk X Y
theorem cat_len (X Y : List UInt8) (h : X.length + Y.length ≤ 1000) : ¬ 9223372036854775807 < (str X).size + (str Y).size := by rw [str_size, str_size]; omega
set_option maxRecDepth 100000 in
set_option maxHeartbeats 4000000 in
theorem rbeside_c (p : Pg) (hp : p.wf) (b : Int) (hb : i64ok b) (w : World) :
    Calls Try.prog 56 #[(.agg #[.int .i64 (p).k.t, .int .i64 (p).k.c, .int .i64 (p).k.e, .int .i64 (p).id, .int .i64 (p).ver]), .int .i64 b] w fun e w' => e = .returned (.string (str (besd p b))) ∧ Below w.heap.size w w' := by
  have HP := hid hp
  have HI := hid hb
  have hB1 : Below w.heap.size w ((w.alloc (.cells #[.int .i64 p.k.t, .int .i64 p.k.c, .int .i64 p.k.e, .int .i64 p.id, .int .i64 p.ver] 89)).alloc (.cells #[.int .i64 p.k.t, .int .i64 p.k.c, .int .i64 p.k.e, .int .i64 p.id, .int .i64 p.ver, .int .i64 b] 3)) := ((Below.refl _ _).alloc (Nat.le_refl _) _).alloc (by simp) _
  have hBK := Blk.new (w.alloc (.cells #[.int .i64 p.k.t, .int .i64 p.k.c, .int .i64 p.k.e, .int .i64 p.id, .int .i64 p.ver] 89)) 3 #[.int .i64 p.k.t, .int .i64 p.k.c, .int .i64 p.k.e, .int .i64 p.id, .int .i64 p.ver, .int .i64 b]
  have hs1 : (w.alloc (.cells #[.int .i64 p.k.t, .int .i64 p.k.c, .int .i64 p.k.e, .int .i64 p.id, .int .i64 p.ver] 89)).heap.size = w.heap.size + 1 := by simp
  rw [hs1] at hBK
  have HB0 := hid hB1
  have HK0 := hid hBK
  clear hp hb hB1 hBK hs1
  obtain ⟨X0, hX0⟩ : ∃ X : List UInt8, X = [] := ⟨_, rfl⟩
  have HL0 : Hid (X0.length ≤ 0) := hid (by rw [hX0]; exact Nat.le_refl _)
  have h00 : (⟨#[]⟩ : ByteArray) = str X0 := by rw [hX0]; rfl
  have HX0 := hid hX0
  clear hX0
  obtain ⟨X1, hX1⟩ : ∃ X : List UInt8, X = X0 ++ num (p.k.t) := ⟨_, rfl⟩
  have HX1 := hid hX1
  have HL1 : Hid (X1.length ≤ 10) := hid (by have h1 := HL0.out; have h2 := num_len HP.out.1.1; rw [hX1, List.length_append]; omega)
  clear hX1
  obtain ⟨X2, hX2⟩ : ∃ X : List UInt8, X = X1 ++ num (p.k.c) := ⟨_, rfl⟩
  have HX2 := hid hX2
  have HL2 : Hid (X2.length ≤ 20) := hid (by have h1 := HL1.out; have h2 := num_len HP.out.1.2.1; rw [hX2, List.length_append]; omega)
  clear hX2
  obtain ⟨X3, hX3⟩ : ∃ X : List UInt8, X = X2 ++ num (p.k.e) := ⟨_, rfl⟩
  have HX3 := hid hX3
  have HL3 : Hid (X3.length ≤ 30) := hid (by have h1 := HL2.out; have h2 := num_len HP.out.1.2.2; rw [hX3, List.length_append]; omega)
  clear hX3
  obtain ⟨X4, hX4⟩ : ∃ X : List UInt8, X = X3 ++ num (p.id) := ⟨_, rfl⟩
  have HX4 := hid hX4
  have HL4 : Hid (X4.length ≤ 40) := hid (by have h1 := HL3.out; have h2 := num_len HP.out.2.1; rw [hX4, List.length_append]; omega)
  clear hX4
  obtain ⟨X5, hX5⟩ : ∃ X : List UInt8, X = X4 ++ num (p.ver) := ⟨_, rfl⟩
  have HX5 := hid hX5
  have HL5 : Hid (X5.length ≤ 50) := hid (by have h1 := HL4.out; have h2 := num_len HP.out.2.2; rw [hX5, List.length_append]; omega)
  clear hX5
  obtain ⟨X6, hX6⟩ : ∃ X : List UInt8, X = X5 ++ num (b) := ⟨_, rfl⟩
  have HX6 := hid hX6
  have HL6 : Hid (X6.length ≤ 60) := hid (by have h1 := HL5.out; have h2 := num_len HI.out; rw [hX6, List.length_append]; omega)
  clear hX6
  have HE : Hid (besd p b = X6) := hid (by rw [HX6.out, HX5.out, HX4.out, HX3.out, HX2.out, HX1.out, HX0.out]; rfl)
  go_enter Try.func56, Try.ntmps56
  go_wp2_with fail
  refine wp_loop_rounds 7 ?_
  rw [rounds_succ]
  go_wp2_with fail
  refine (refFolded_c p.k.t _ HP.out.1.1.1 HP.out.1.1.2).mono ?_
  rintro e wz ⟨rfl, rfl⟩
  go_wp2_with fail
  refine (rnumb_c p.k.t _ HP.out.1.1).mono ?_
  rintro e w1 ⟨A1, n1, c1, rfl, hb1, hw1⟩
  have HB1 := hid (HB0.out.trans (hw1.mono HB0.out.size))
  have HK1 := hid (HK0.out.keep (hw1.block _ HK0.out.lt))
  have hst := run_str (P := Try.prog) (c := c1) 44 9 5 Try.underlying44 Try.underlying5 Try.underlying9 hb1
  have hcs := cat_str X0 (num (p.k.t)) X1 HX1.out
  have hcl := cat_len X0 (num (p.k.t)) (by have h1 := HL0.out; have h2 := num_len HP.out.1.1; omega)
  clear hb1 hw1 HB0 HK0
  have k1 := HK1.out.cell 1
  simp only [List.getElem?_toArray, List.getElem?_cons_zero, List.getElem?_cons_succ] at k1
  go_wp2_with fail
  clear hst hcs hcl h00
  rw [rounds_succ]
  go_wp2_with fail
  refine (refFolded_c p.k.c _ HP.out.1.2.1.1 HP.out.1.2.1.2).mono ?_
  rintro e wz ⟨rfl, rfl⟩
  go_wp2_with fail
  refine (rnumb_c p.k.c _ HP.out.1.2.1).mono ?_
  rintro e w2 ⟨A2, n2, c2, rfl, hb2, hw2⟩
  have HB2 := hid (HB1.out.trans (hw2.mono HB1.out.size))
  have HK2 := hid (HK1.out.keep (hw2.block _ HK1.out.lt))
  have hst := run_str (P := Try.prog) (c := c2) 44 9 5 Try.underlying44 Try.underlying5 Try.underlying9 hb2
  have hcs := cat_str X1 (num (p.k.c)) X2 HX2.out
  have hcl := cat_len X1 (num (p.k.c)) (by have h1 := HL1.out; have h2 := num_len HP.out.1.2.1; omega)
  clear hb2 hw2 HB1 HK1
  have k2 := HK2.out.cell 2
  simp only [List.getElem?_toArray, List.getElem?_cons_zero, List.getElem?_cons_succ] at k2
  go_wp2_with fail
  clear hst hcs hcl
  rw [rounds_succ]
  go_wp2_with fail
  refine (refFolded_c p.k.e _ HP.out.1.2.2.1 HP.out.1.2.2.2).mono ?_
  rintro e wz ⟨rfl, rfl⟩
  go_wp2_with fail
  refine (rnumb_c p.k.e _ HP.out.1.2.2).mono ?_
  rintro e w3 ⟨A3, n3, c3, rfl, hb3, hw3⟩
  have HB3 := hid (HB2.out.trans (hw3.mono HB2.out.size))
  have HK3 := hid (HK2.out.keep (hw3.block _ HK2.out.lt))
  have hst := run_str (P := Try.prog) (c := c3) 44 9 5 Try.underlying44 Try.underlying5 Try.underlying9 hb3
  have hcs := cat_str X2 (num (p.k.e)) X3 HX3.out
  have hcl := cat_len X2 (num (p.k.e)) (by have h1 := HL2.out; have h2 := num_len HP.out.1.2.2; omega)
  clear hb3 hw3 HB2 HK2
  have k3 := HK3.out.cell 3
  simp only [List.getElem?_toArray, List.getElem?_cons_zero, List.getElem?_cons_succ] at k3
  go_wp2_with fail
  clear hst hcs hcl
  rw [rounds_succ]
  go_wp2_with fail
  refine (refFolded_c p.id _ HP.out.2.1.1 HP.out.2.1.2).mono ?_
  rintro e wz ⟨rfl, rfl⟩
  go_wp2_with fail
  refine (rnumb_c p.id _ HP.out.2.1).mono ?_
  rintro e w4 ⟨A4, n4, c4, rfl, hb4, hw4⟩
  have HB4 := hid (HB3.out.trans (hw4.mono HB3.out.size))
  have HK4 := hid (HK3.out.keep (hw4.block _ HK3.out.lt))
  have hst := run_str (P := Try.prog) (c := c4) 44 9 5 Try.underlying44 Try.underlying5 Try.underlying9 hb4
  have hcs := cat_str X3 (num (p.id)) X4 HX4.out
  have hcl := cat_len X3 (num (p.id)) (by have h1 := HL3.out; have h2 := num_len HP.out.2.1; omega)
  clear hb4 hw4 HB3 HK3
  have k4 := HK4.out.cell 4
  simp only [List.getElem?_toArray, List.getElem?_cons_zero, List.getElem?_cons_succ] at k4
  go_wp2_with fail
  clear hst hcs hcl
  rw [rounds_succ]
  go_wp2_with fail
  refine (refFolded_c p.ver _ HP.out.2.2.1 HP.out.2.2.2).mono ?_
  rintro e wz ⟨rfl, rfl⟩
  go_wp2_with fail
  refine (rnumb_c p.ver _ HP.out.2.2).mono ?_
  rintro e w5 ⟨A5, n5, c5, rfl, hb5, hw5⟩
  have HB5 := hid (HB4.out.trans (hw5.mono HB4.out.size))
  have HK5 := hid (HK4.out.keep (hw5.block _ HK4.out.lt))
  have hst := run_str (P := Try.prog) (c := c5) 44 9 5 Try.underlying44 Try.underlying5 Try.underlying9 hb5
  have hcs := cat_str X4 (num (p.ver)) X5 HX5.out
  have hcl := cat_len X4 (num (p.ver)) (by have h1 := HL4.out; have h2 := num_len HP.out.2.2; omega)
  clear hb5 hw5 HB4 HK4
  have k5 := HK5.out.cell 5
  simp only [List.getElem?_toArray, List.getElem?_cons_zero, List.getElem?_cons_succ] at k5
  go_wp2_with fail
  clear hst hcs hcl
  rw [rounds_succ]
  go_wp2_with fail
  refine (refFolded_c b _ HI.out.1 HI.out.2).mono ?_
  rintro e wz ⟨rfl, rfl⟩
  go_wp2_with fail
  refine (rnumb_c b _ HI.out).mono ?_
  rintro e w6 ⟨A6, n6, c6, rfl, hb6, hw6⟩
  have HB6 := hid (HB5.out.trans (hw6.mono HB5.out.size))
  have HK6 := hid (HK5.out.keep (hw6.block _ HK5.out.lt))
  have hst := run_str (P := Try.prog) (c := c6) 44 9 5 Try.underlying44 Try.underlying5 Try.underlying9 hb6
  have hcs := cat_str X5 (num (b)) X6 HX6.out
  have hcl := cat_len X5 (num (b)) (by have h1 := HL5.out; have h2 := num_len HI.out; omega)
  clear hb6 hw6 HB5 HK5
  go_wp2_with fail
  clear hst hcs hcl
  rw [rounds_succ]
  go_wp2
  go_ret
  exact ⟨by rw [HE.out]; rfl, HB6.out⟩
set_option maxRecDepth 100000 in
set_option maxHeartbeats 4000000 in
theorem rbytes_c (h : Nat) (hh : h < 18446744073709551616) (w : World) :
    Calls Try.prog 57 #[.int .u64 (h : Int)] w fun e w' => e = .returned (.string (str (le8 h))) ∧ Below w.heap.size w w' := by
  have HH := hid hh
  clear hh
  go_enter Try.func57, Try.ntmps57
  go_wp2_with fail
  refine wp_loop_rounds 9 ?_
  rw [rounds_succ]
  go_wp2_with (at_builtin; refine wpList_app1 _ rfl _ _ 44 _ rfl w.heap.size 5 (.int .u8 0) 1 Try.underlying44 Try.info5 rfl _ _ _ _ rfl (own_nilrow w w.heap.size 5 1) _ rfl rfl (by omega) (by unfold maxLen; omega) (Nat.le_refl _) ?_)
  intro A0 c0 w0 hc0 hown0 _ hb0 hbs0
  have HB0 := hid hb0
  clear hb0
  go_wp2_with fail
  rw [rounds_succ]
  go_wp2_with (at_builtin; refine wpList_app1 _ rfl _ _ 44 _ rfl w.heap.size 5 (.int .u8 0) 1 Try.underlying44 Try.info5 rfl _ _ _ _ rfl hown0 _ rfl rfl (by omega) (by unfold maxLen; omega) hbs0 ?_)
  intro A1 c1 w1 hc1 hown1 _ hb1 hbs1
  have HB1 := hid (HB0.out.trans hb1)
  clear hb1 hown0 hbs0 hc0 HB0
  go_wp2_with fail
  rw [rounds_succ]
  go_wp2_with (at_builtin; refine wpList_app1 _ rfl _ _ 44 _ rfl w.heap.size 5 (.int .u8 0) 1 Try.underlying44 Try.info5 rfl _ _ _ _ rfl hown1 _ rfl rfl (by omega) (by unfold maxLen; omega) hbs1 ?_)
  intro A2 c2 w2 hc2 hown2 _ hb2 hbs2
  have HB2 := hid (HB1.out.trans hb2)
  clear hb2 hown1 hbs1 hc1 HB1
  go_wp2_with fail
  rw [rounds_succ]
  go_wp2_with (at_builtin; refine wpList_app1 _ rfl _ _ 44 _ rfl w.heap.size 5 (.int .u8 0) 1 Try.underlying44 Try.info5 rfl _ _ _ _ rfl hown2 _ rfl rfl (by omega) (by unfold maxLen; omega) hbs2 ?_)
  intro A3 c3 w3 hc3 hown3 _ hb3 hbs3
  have HB3 := hid (HB2.out.trans hb3)
  clear hb3 hown2 hbs2 hc2 HB2
  go_wp2_with fail
  rw [rounds_succ]
  go_wp2_with (at_builtin; refine wpList_app1 _ rfl _ _ 44 _ rfl w.heap.size 5 (.int .u8 0) 1 Try.underlying44 Try.info5 rfl _ _ _ _ rfl hown3 _ rfl rfl (by omega) (by unfold maxLen; omega) hbs3 ?_)
  intro A4 c4 w4 hc4 hown4 _ hb4 hbs4
  have HB4 := hid (HB3.out.trans hb4)
  clear hb4 hown3 hbs3 hc3 HB3
  go_wp2_with fail
  rw [rounds_succ]
  go_wp2_with (at_builtin; refine wpList_app1 _ rfl _ _ 44 _ rfl w.heap.size 5 (.int .u8 0) 1 Try.underlying44 Try.info5 rfl _ _ _ _ rfl hown4 _ rfl rfl (by omega) (by unfold maxLen; omega) hbs4 ?_)
  intro A5 c5 w5 hc5 hown5 _ hb5 hbs5
  have HB5 := hid (HB4.out.trans hb5)
  clear hb5 hown4 hbs4 hc4 HB4
  go_wp2_with fail
  rw [rounds_succ]
  go_wp2_with (at_builtin; refine wpList_app1 _ rfl _ _ 44 _ rfl w.heap.size 5 (.int .u8 0) 1 Try.underlying44 Try.info5 rfl _ _ _ _ rfl hown5 _ rfl rfl (by omega) (by unfold maxLen; omega) hbs5 ?_)
  intro A6 c6 w6 hc6 hown6 _ hb6 hbs6
  have HB6 := hid (HB5.out.trans hb6)
  clear hb6 hown5 hbs5 hc5 HB5
  go_wp2_with fail
  rw [rounds_succ]
  go_wp2_with (at_builtin; refine wpList_app1 _ rfl _ _ 44 _ rfl w.heap.size 5 (.int .u8 0) 1 Try.underlying44 Try.info5 rfl _ _ _ _ rfl hown6 _ rfl rfl (by omega) (by unfold maxLen; omega) hbs6 ?_)
  intro A7 c7 w7 hc7 hown7 _ hb7 hbs7
  have HB7 := hid (HB6.out.trans hb7)
  clear hb7 hown6 hbs6 hc6 HB6
  go_wp2_with fail
  rw [rounds_succ]
  have hbt : Bts w7 w.heap.size w7.heap.size A7 8 (le8 h) := Bts.own (by rw [bs_le8]; exact hown7)
  have hst := run_str (P := Try.prog) (c := c7) 44 9 5 Try.underlying44 Try.underlying5 Try.underlying9 hbt
  clear hown7 hbt
  go_wp2
  go_ret
  exact ⟨rfl, HB7.out⟩
end Go.Proofs.Ytocmgdhgimpfhaa
