import Derived.Test.YtolaojkcofbkhaaGreatObRf
import Derived.Test.YtolaojkcofbkhaaGreatPgRe
import Derived.Test.YtolaojkcofbkhaaGreatPkRef
import Derived.LoopN
namespace Go.Proofs.YtolaojkcofbkhaaGreat
set_option maxRecDepth 100000
set_option maxHeartbeats 4000000
open Go.RowKit
theorem rnumb_c (x : Int) (w : World) (h : i64ok x) :
 Calls Tryz.prog 80 #[.int .u64 (fold x : Int)] w fun e w' => ∃ A n c, e = .returned (.slice A n c) ∧ Bts w' 0 w'.heap.size A n (num x) ∧ Below w.heap.size w w' := by
 refine (refNatural_c (fold x) (fold x) w (nl _) (fold_lt h.1 h.2)).mono ?_
 intro e w' hrow
 obtain ⟨A', n', c', rfl, hl, -, -, hb, hbel⟩ := hrow.out
 exact ⟨A', n', c', rfl, hb.wide (Nat.zero_le _) (nl _), hbel⟩
theorem cat_str (X Y Z : List UInt8) (h : Z = X ++ Y) : str X ++ str Y = str Z := by rw [h]; exact ByteArray.mk_append_mk X Y
theorem cat_len (X Y : List UInt8) (h : X.length + Y.length ≤ 1000) : ¬ 9223372036854775807 < (str X).size + (str Y).size := by rw [str_size, str_size]; omega
theorem rbeside_c (p : Pg) (hp : p.wf) (b : Int) (hb : i64ok b) (w : World) :
 Calls Tryz.prog 98 #[(.agg #[.int .i64 (p).k.t, .int .i64 (p).k.c, .int .i64 (p).k.e, .int .i64 (p).id, .int .i64 (p).ver]), .int .i64 b] w fun e w' => e = .returned (.string (str (besd p b))) ∧ Below w.heap.size w w' := by
 have HP := hid hp
 have HI := hid hb
 have hB1 : Below w.heap.size w ((w.alloc (.cells #[.int .i64 p.k.t, .int .i64 p.k.c, .int .i64 p.k.e, .int .i64 p.id, .int .i64 p.ver] 88)).alloc (.cells #[.int .i64 p.k.t, .int .i64 p.k.c, .int .i64 p.k.e, .int .i64 p.id, .int .i64 p.ver, .int .i64 b] 3)) := ((Below.refl _ _).alloc (nl _) _).alloc (by simp) _
 have hBK := Blk.new (w.alloc (.cells #[.int .i64 p.k.t, .int .i64 p.k.c, .int .i64 p.k.e, .int .i64 p.id, .int .i64 p.ver] 88)) 3 #[.int .i64 p.k.t, .int .i64 p.k.c, .int .i64 p.k.e, .int .i64 p.id, .int .i64 p.ver, .int .i64 b]
 have hs1 : (w.alloc (.cells #[.int .i64 p.k.t, .int .i64 p.k.c, .int .i64 p.k.e, .int .i64 p.id, .int .i64 p.ver] 88)).heap.size = w.heap.size + 1 := by simp
 rw [hs1] at hBK
 have HB0 := hid hB1
 have HK0 := hid hBK
 clear hp hb hB1 hBK hs1
 obtain ⟨X0, hX0⟩ : ∃ X : List UInt8, X = [] := ⟨_, rfl⟩
 have HL0 : Hid (X0.length ≤ 0) := hid (by rw [hX0]; exact nl _)
 have h00 : (⟨#[]⟩ : ByteArray) = str X0 := by rw [hX0]; rfl
 have HX0 := hid hX0
 clear hX0
 obtain ⟨X1, hX1⟩ : ∃ X : List UInt8, X = X0 ++ num (p.k.t) := ⟨_, rfl⟩
 have HX1 := hid hX1
 have HL1 : Hid (X1.length ≤ 10) := hid (by have h1 := HL0.out; have h2 := num_len HP.out.1.1; rw [hX1, List.length_append]; omega)
 clear hX1
 obtain ⟨X2, hX2⟩ : ∃ X : List UInt8, X = X1 ++ num (p.k.c) := ⟨_, rfl⟩
 have HX2 := hid hX2
 have HL2 : Hid (X2.length ≤ 20) := hid (by have h1 := HL1.out; have h2 := num_len HP.out.1.2.1; rw [hX2, List.length_append]; omega)
 clear hX2
 obtain ⟨X3, hX3⟩ : ∃ X : List UInt8, X = X2 ++ num (p.k.e) := ⟨_, rfl⟩
 have HX3 := hid hX3
 have HL3 : Hid (X3.length ≤ 30) := hid (by have h1 := HL2.out; have h2 := num_len HP.out.1.2.2; rw [hX3, List.length_append]; omega)
 clear hX3
 obtain ⟨X4, hX4⟩ : ∃ X : List UInt8, X = X3 ++ num (p.id) := ⟨_, rfl⟩
 have HX4 := hid hX4
 have HL4 : Hid (X4.length ≤ 40) := hid (by have h1 := HL3.out; have h2 := num_len HP.out.2.1; rw [hX4, List.length_append]; omega)
 clear hX4
 obtain ⟨X5, hX5⟩ : ∃ X : List UInt8, X = X4 ++ num (p.ver) := ⟨_, rfl⟩
 have HX5 := hid hX5
 have HL5 : Hid (X5.length ≤ 50) := hid (by have h1 := HL4.out; have h2 := num_len HP.out.2.2; rw [hX5, List.length_append]; omega)
 clear hX5
 obtain ⟨X6, hX6⟩ : ∃ X : List UInt8, X = X5 ++ num (b) := ⟨_, rfl⟩
 have HX6 := hid hX6
 have HL6 : Hid (X6.length ≤ 60) := hid (by have h1 := HL5.out; have h2 := num_len HI.out; rw [hX6, List.length_append]; omega)
 clear hX6
 have HE : Hid (besd p b = X6) := hid (by rw [HX6.out, HX5.out, HX4.out, HX3.out, HX2.out, HX1.out, HX0.out]; rfl)
 go_enter Tryz.func98, Tryz.ntmps98
 go_wp2_with fail
 refine wp_loop_rounds 7 ?_
 rw [rounds_succ]
 go_wp2_with fail
 refine (refFolded_c p.k.t _ HP.out.1.1.1 HP.out.1.1.2).mono ?_
 rintro e wz ⟨rfl, rfl⟩
 go_wp2_with fail
 refine (rnumb_c p.k.t _ HP.out.1.1).mono ?_
 rintro e w1 ⟨A1, n1, c1, rfl, hb1, hw1⟩
 have HB1 := hid (HB0.out.trans (hw1.mono HB0.out.size))
 have HK1 := hid (HK0.out.keep (hw1.block _ HK0.out.lt))
 have hst := run_str (P := Tryz.prog) (c := c1) 51 9 5 Tryz.underlying51 Tryz.underlying5 Tryz.underlying9 hb1
 have hcs := cat_str X0 (num (p.k.t)) X1 HX1.out
 have hcl := cat_len X0 (num (p.k.t)) (by have h1 := HL0.out; have h2 := num_len HP.out.1.1; omega)
 clear hb1 hw1 HB0 HK0
 have k1 := HK1.out.cell 1
 simp only [zD, zF, zE] at k1
 go_wp2_with fail
 clear hst hcs hcl h00
 rw [rounds_succ]
 go_wp2_with fail
 refine (refFolded_c p.k.c _ HP.out.1.2.1.1 HP.out.1.2.1.2).mono ?_
 rintro e wz ⟨rfl, rfl⟩
 go_wp2_with fail
 refine (rnumb_c p.k.c _ HP.out.1.2.1).mono ?_
 rintro e w2 ⟨A2, n2, c2, rfl, hb2, hw2⟩
 have HB2 := hid (HB1.out.trans (hw2.mono HB1.out.size))
 have HK2 := hid (HK1.out.keep (hw2.block _ HK1.out.lt))
 have hst := run_str (P := Tryz.prog) (c := c2) 51 9 5 Tryz.underlying51 Tryz.underlying5 Tryz.underlying9 hb2
 have hcs := cat_str X1 (num (p.k.c)) X2 HX2.out
 have hcl := cat_len X1 (num (p.k.c)) (by have h1 := HL1.out; have h2 := num_len HP.out.1.2.1; omega)
 clear hb2 hw2 HB1 HK1
 have k2 := HK2.out.cell 2
 simp only [zD, zF, zE] at k2
 go_wp2_with fail
 clear hst hcs hcl
 rw [rounds_succ]
 go_wp2_with fail
 refine (refFolded_c p.k.e _ HP.out.1.2.2.1 HP.out.1.2.2.2).mono ?_
 rintro e wz ⟨rfl, rfl⟩
 go_wp2_with fail
 refine (rnumb_c p.k.e _ HP.out.1.2.2).mono ?_
 rintro e w3 ⟨A3, n3, c3, rfl, hb3, hw3⟩
 have HB3 := hid (HB2.out.trans (hw3.mono HB2.out.size))
 have HK3 := hid (HK2.out.keep (hw3.block _ HK2.out.lt))
 have hst := run_str (P := Tryz.prog) (c := c3) 51 9 5 Tryz.underlying51 Tryz.underlying5 Tryz.underlying9 hb3
 have hcs := cat_str X2 (num (p.k.e)) X3 HX3.out
 have hcl := cat_len X2 (num (p.k.e)) (by have h1 := HL2.out; have h2 := num_len HP.out.1.2.2; omega)
 clear hb3 hw3 HB2 HK2
 have k3 := HK3.out.cell 3
 simp only [zD, zF, zE] at k3
 go_wp2_with fail
 clear hst hcs hcl
 rw [rounds_succ]
 go_wp2_with fail
 refine (refFolded_c p.id _ HP.out.2.1.1 HP.out.2.1.2).mono ?_
 rintro e wz ⟨rfl, rfl⟩
 go_wp2_with fail
 refine (rnumb_c p.id _ HP.out.2.1).mono ?_
 rintro e w4 ⟨A4, n4, c4, rfl, hb4, hw4⟩
 have HB4 := hid (HB3.out.trans (hw4.mono HB3.out.size))
 have HK4 := hid (HK3.out.keep (hw4.block _ HK3.out.lt))
 have hst := run_str (P := Tryz.prog) (c := c4) 51 9 5 Tryz.underlying51 Tryz.underlying5 Tryz.underlying9 hb4
 have hcs := cat_str X3 (num (p.id)) X4 HX4.out
 have hcl := cat_len X3 (num (p.id)) (by have h1 := HL3.out; have h2 := num_len HP.out.2.1; omega)
 clear hb4 hw4 HB3 HK3
 have k4 := HK4.out.cell 4
 simp only [zD, zF, zE] at k4
 go_wp2_with fail
 clear hst hcs hcl
 rw [rounds_succ]
 go_wp2_with fail
 refine (refFolded_c p.ver _ HP.out.2.2.1 HP.out.2.2.2).mono ?_
 rintro e wz ⟨rfl, rfl⟩
 go_wp2_with fail
 refine (rnumb_c p.ver _ HP.out.2.2).mono ?_
 rintro e w5 ⟨A5, n5, c5, rfl, hb5, hw5⟩
 have HB5 := hid (HB4.out.trans (hw5.mono HB4.out.size))
 have HK5 := hid (HK4.out.keep (hw5.block _ HK4.out.lt))
 have hst := run_str (P := Tryz.prog) (c := c5) 51 9 5 Tryz.underlying51 Tryz.underlying5 Tryz.underlying9 hb5
 have hcs := cat_str X4 (num (p.ver)) X5 HX5.out
 have hcl := cat_len X4 (num (p.ver)) (by have h1 := HL4.out; have h2 := num_len HP.out.2.2; omega)
 clear hb5 hw5 HB4 HK4
 have k5 := HK5.out.cell 5
 simp only [zD, zF, zE] at k5
 go_wp2_with fail
 clear hst hcs hcl
 rw [rounds_succ]
 go_wp2_with fail
 refine (refFolded_c b _ HI.out.1 HI.out.2).mono ?_
 rintro e wz ⟨rfl, rfl⟩
 go_wp2_with fail
 refine (rnumb_c b _ HI.out).mono ?_
 rintro e w6 ⟨A6, n6, c6, rfl, hb6, hw6⟩
 have HB6 := hid (HB5.out.trans (hw6.mono HB5.out.size))
 have HK6 := hid (HK5.out.keep (hw6.block _ HK5.out.lt))
 have hst := run_str (P := Tryz.prog) (c := c6) 51 9 5 Tryz.underlying51 Tryz.underlying5 Tryz.underlying9 hb6
 have hcs := cat_str X5 (num (b)) X6 HX6.out
 have hcl := cat_len X5 (num (b)) (by have h1 := HL5.out; have h2 := num_len HI.out; omega)
 clear hb6 hw6 HB5 HK5
 go_wp2_with fail
 clear hst hcs hcl
 rw [rounds_succ]
 go_wp2
 go_ret
 exact ⟨by rw [HE.out]; rfl, HB6.out⟩
theorem rbytes_c (h : Nat) (hh : h < 18446744073709551616) (w : World) :
 Calls Tryz.prog 100 #[.int .u64 (h : Int)] w fun e w' => e = .returned (.string (str (le8 h))) ∧ Below w.heap.size w w' := by
 have HH := hid hh
 clear hh
 go_enter Tryz.func100, Tryz.ntmps100
 go_wp2_with fail
 refine wp_loop_rounds 9 ?_
 rw [rounds_succ]
 go_wp2_with (at_builtin; refine wpList_app1 _ rfl _ _ 51 _ rfl w.heap.size 5 (.int .u8 0) 1 Tryz.underlying51 Tryz.info5 rfl _ _ _ _ rfl (own_nilrow w w.heap.size 5 1) _ rfl rfl (by omega) (by unfold maxLen; omega) (nl _) ?_)
 intro A0 c0 w0 hc0 hown0 _ hb0 hbs0
 have HB0 := hid hb0
 clear hb0
 go_wp2_with fail
 rw [rounds_succ]
 go_wp2_with (at_builtin; refine wpList_app1 _ rfl _ _ 51 _ rfl w.heap.size 5 (.int .u8 0) 1 Tryz.underlying51 Tryz.info5 rfl _ _ _ _ rfl hown0 _ rfl rfl (by omega) (by unfold maxLen; omega) hbs0 ?_)
 intro A1 c1 w1 hc1 hown1 _ hb1 hbs1
 have HB1 := hid (HB0.out.trans hb1)
 clear hb1 hown0 hbs0 hc0 HB0
 go_wp2_with fail
 rw [rounds_succ]
 go_wp2_with (at_builtin; refine wpList_app1 _ rfl _ _ 51 _ rfl w.heap.size 5 (.int .u8 0) 1 Tryz.underlying51 Tryz.info5 rfl _ _ _ _ rfl hown1 _ rfl rfl (by omega) (by unfold maxLen; omega) hbs1 ?_)
 intro A2 c2 w2 hc2 hown2 _ hb2 hbs2
 have HB2 := hid (HB1.out.trans hb2)
 clear hb2 hown1 hbs1 hc1 HB1
 go_wp2_with fail
 rw [rounds_succ]
 go_wp2_with (at_builtin; refine wpList_app1 _ rfl _ _ 51 _ rfl w.heap.size 5 (.int .u8 0) 1 Tryz.underlying51 Tryz.info5 rfl _ _ _ _ rfl hown2 _ rfl rfl (by omega) (by unfold maxLen; omega) hbs2 ?_)
 intro A3 c3 w3 hc3 hown3 _ hb3 hbs3
 have HB3 := hid (HB2.out.trans hb3)
 clear hb3 hown2 hbs2 hc2 HB2
 go_wp2_with fail
 rw [rounds_succ]
 go_wp2_with (at_builtin; refine wpList_app1 _ rfl _ _ 51 _ rfl w.heap.size 5 (.int .u8 0) 1 Tryz.underlying51 Tryz.info5 rfl _ _ _ _ rfl hown3 _ rfl rfl (by omega) (by unfold maxLen; omega) hbs3 ?_)
 intro A4 c4 w4 hc4 hown4 _ hb4 hbs4
 have HB4 := hid (HB3.out.trans hb4)
 clear hb4 hown3 hbs3 hc3 HB3
 go_wp2_with fail
 rw [rounds_succ]
 go_wp2_with (at_builtin; refine wpList_app1 _ rfl _ _ 51 _ rfl w.heap.size 5 (.int .u8 0) 1 Tryz.underlying51 Tryz.info5 rfl _ _ _ _ rfl hown4 _ rfl rfl (by omega) (by unfold maxLen; omega) hbs4 ?_)
 intro A5 c5 w5 hc5 hown5 _ hb5 hbs5
 have HB5 := hid (HB4.out.trans hb5)
 clear hb5 hown4 hbs4 hc4 HB4
 go_wp2_with fail
 rw [rounds_succ]
 go_wp2_with (at_builtin; refine wpList_app1 _ rfl _ _ 51 _ rfl w.heap.size 5 (.int .u8 0) 1 Tryz.underlying51 Tryz.info5 rfl _ _ _ _ rfl hown5 _ rfl rfl (by omega) (by unfold maxLen; omega) hbs5 ?_)
 intro A6 c6 w6 hc6 hown6 _ hb6 hbs6
 have HB6 := hid (HB5.out.trans hb6)
 clear hb6 hown5 hbs5 hc5 HB5
 go_wp2_with fail
 rw [rounds_succ]
 go_wp2_with (at_builtin; refine wpList_app1 _ rfl _ _ 51 _ rfl w.heap.size 5 (.int .u8 0) 1 Tryz.underlying51 Tryz.info5 rfl _ _ _ _ rfl hown6 _ rfl rfl (by omega) (by unfold maxLen; omega) hbs6 ?_)
 intro A7 c7 w7 hc7 hown7 _ hb7 hbs7
 have HB7 := hid (HB6.out.trans hb7)
 clear hb7 hown6 hbs6 hc6 HB6
 go_wp2_with fail
 rw [rounds_succ]
 have hbt : Bts w7 w.heap.size w7.heap.size A7 8 (le8 h) := Bts.own (by rw [bs_le8]; exact hown7)
 have hst := run_str (P := Tryz.prog) (c := c7) 51 9 5 Tryz.underlying51 Tryz.underlying5 Tryz.underlying9 hbt
 clear hown7 hbt
 go_wp2
 go_ret
 exact ⟨rfl, HB7.out⟩
theorem u64w {a : Int} (h : 0 ≤ a) (h2 : a < 18446744073709551616) : IntKind.u64.wrap a = a := IntWalk.u64_in _ (by omega)
theorem rhandle_c (l : List UInt8) (w : World) (hll : l.length ≤ 1000000) :
 Calls Tryz.prog 109 #[.string (str l)] w fun e w' => e = .returned (.tuple #[.int .u64 (hOf l : Int), .bool (decide (0 < hOf l))]) ∧ w = w' := by
 by_cases hn : l.length = 16
 · match l, hn with
   | [b0, b1, b2, b3, b4, b5, b6, b7, b8, b9, b10, b11, b12, b13, b14, b15], _ =>
   have HO := hid (hOf16 b0 b1 b2 b3 b4 b5 b6 b7 b8 b9 b10 b11 b12 b13 b14 b15)
   have hsl : ∀ wx, (Instr.slice 9 (.string (str [b0, b1, b2, b3, b4, b5, b6, b7, b8, b9, b10, b11, b12, b13, b14, b15])) (some (.int .i64 8)) none none).run Tryz.prog wx = .ok (.string (str [b8, b9, b10, b11, b12, b13, b14, b15])) wx := fun _ => by kernel_rfl
   have hi0 : ∀ wx, (Instr.index 9 (.string (str [b0, b1, b2, b3, b4, b5, b6, b7, b8, b9, b10, b11, b12, b13, b14, b15])) (.int .i64 0)).run Tryz.prog wx = .ok (.int .u8 (b0.toNat : Int)) wx := fun _ => by kernel_rfl
   have hi1 : ∀ wx, (Instr.index 9 (.string (str [b0, b1, b2, b3, b4, b5, b6, b7, b8, b9, b10, b11, b12, b13, b14, b15])) (.int .i64 1)).run Tryz.prog wx = .ok (.int .u8 (b1.toNat : Int)) wx := fun _ => by kernel_rfl
   have hi2 : ∀ wx, (Instr.index 9 (.string (str [b0, b1, b2, b3, b4, b5, b6, b7, b8, b9, b10, b11, b12, b13, b14, b15])) (.int .i64 2)).run Tryz.prog wx = .ok (.int .u8 (b2.toNat : Int)) wx := fun _ => by kernel_rfl
   have hi3 : ∀ wx, (Instr.index 9 (.string (str [b0, b1, b2, b3, b4, b5, b6, b7, b8, b9, b10, b11, b12, b13, b14, b15])) (.int .i64 3)).run Tryz.prog wx = .ok (.int .u8 (b3.toNat : Int)) wx := fun _ => by kernel_rfl
   have hi4 : ∀ wx, (Instr.index 9 (.string (str [b0, b1, b2, b3, b4, b5, b6, b7, b8, b9, b10, b11, b12, b13, b14, b15])) (.int .i64 4)).run Tryz.prog wx = .ok (.int .u8 (b4.toNat : Int)) wx := fun _ => by kernel_rfl
   have hi5 : ∀ wx, (Instr.index 9 (.string (str [b0, b1, b2, b3, b4, b5, b6, b7, b8, b9, b10, b11, b12, b13, b14, b15])) (.int .i64 5)).run Tryz.prog wx = .ok (.int .u8 (b5.toNat : Int)) wx := fun _ => by kernel_rfl
   have hi6 : ∀ wx, (Instr.index 9 (.string (str [b0, b1, b2, b3, b4, b5, b6, b7, b8, b9, b10, b11, b12, b13, b14, b15])) (.int .i64 6)).run Tryz.prog wx = .ok (.int .u8 (b6.toNat : Int)) wx := fun _ => by kernel_rfl
   have hi7 : ∀ wx, (Instr.index 9 (.string (str [b0, b1, b2, b3, b4, b5, b6, b7, b8, b9, b10, b11, b12, b13, b14, b15])) (.int .i64 7)).run Tryz.prog wx = .ok (.int .u8 (b7.toNat : Int)) wx := fun _ => by kernel_rfl
   have hsz : (str [b0, b1, b2, b3, b4, b5, b6, b7, b8, b9, b10, b11, b12, b13, b14, b15]).size = 16 := rfl
   generalize str [b0, b1, b2, b3, b4, b5, b6, b7, b8, b9, b10, b11, b12, b13, b14, b15] = S at *
   have HT : Hid ((str [b8, b9, b10, b11, b12, b13, b14, b15]).toList == [0, 0, 0, 0, 0, 0, 0, 0] ↔ (b8.toNat = 0 ∧ b9.toNat = 0 ∧ b10.toNat = 0 ∧ b11.toNat = 0 ∧ b12.toNat = 0 ∧ b13.toNat = 0 ∧ b14.toNat = 0 ∧ b15.toNat = 0)) := hid (by
    have e : ∀ b : UInt8, b.toNat = 0 ↔ b = 0 := fun b => ⟨fun h => UInt8.toNat_inj.1 (by simpa using h), fun h => by rw [h]; rfl⟩
    rw [str_list]
    simp only [e]
    simp)
   generalize str [b8, b9, b10, b11, b12, b13, b14, b15] = T at *
   have hx0 : b0.toNat < 256 := b0.toNat_lt
   have hx1 : b1.toNat < 256 := b1.toNat_lt
   have hx2 : b2.toNat < 256 := b2.toNat_lt
   have hx3 : b3.toNat < 256 := b3.toNat_lt
   have hx4 : b4.toNat < 256 := b4.toNat_lt
   have hx5 : b5.toNat < 256 := b5.toNat_lt
   have hx6 : b6.toNat < 256 := b6.toNat_lt
   have hx7 : b7.toNat < 256 := b7.toNat_lt
   generalize b0.toNat = x0 at *
   generalize b1.toNat = x1 at *
   generalize b2.toNat = x2 at *
   generalize b3.toNat = x3 at *
   generalize b4.toNat = x4 at *
   generalize b5.toNat = x5 at *
   generalize b6.toNat = x6 at *
   generalize b7.toNat = x7 at *
   generalize b8.toNat = x8 at *
   generalize b9.toNat = x9 at *
   generalize b10.toNat = x10 at *
   generalize b11.toNat = x11 at *
   generalize b12.toNat = x12 at *
   generalize b13.toNat = x13 at *
   generalize b14.toNat = x14 at *
   generalize b15.toNat = x15 at *
   generalize hOf [b0, b1, b2, b3, b4, b5, b6, b7, b8, b9, b10, b11, b12, b13, b14, b15] = H at *
   have HX0 := hid hx0
   have HX1 := hid hx1
   have HX2 := hid hx2
   have HX3 := hid hx3
   have HX4 := hid hx4
   have HX5 := hid hx5
   have HX6 := hid hx6
   have HX7 := hid hx7
   clear hx0 hx1 hx2 hx3 hx4 hx5 hx6 hx7
   by_cases hz : T.toList == [0, 0, 0, 0, 0, 0, 0, 0]
   · have HO2 : Hid (H = x0 + 256 * (x1 + 256 * (x2 + 256 * (x3 + 256 * (x4 + 256 * (x5 + 256 * (x6 + 256 * x7))))))) := hid (HO.out.trans (if_pos (HT.out.1 hz)))
     clear HO HT
     go_enter Tryz.func109, Tryz.ntmps109
     go_wp2_with fail
     clear hz
     refine wp_loop_rounds 9 ?_
     rw [rounds_succ]
     obtain ⟨y7, hy7⟩ : ∃ y : Nat, y = x7 := ⟨_, rfl⟩
     have e1 : (x7 : Int) = (y7 : Int) := by omega
     have e2 : IntKind.u64.wrap (y7 : Int) = (y7 : Int) := u64w (by omega) (by have h1 := HX7.out; omega)
     have HB7 : Hid (y7 < 256) := hid (by have h1 := HX7.out; omega)
     have HY7 := hid hy7
     clear hy7
     go_wp2_with fail
     clear e1 e2
     rw [rounds_succ]
     obtain ⟨y6, hy6⟩ : ∃ y : Nat, y = x6 + 256 * y7 := ⟨_, rfl⟩
     have HB6 : Hid (y6 < 65536) := hid (by have h1 := HX6.out; have h2 := HB7.out; omega)
     have e1 : IntKind.u64.wrap (256 * (y7 : Int)) = 256 * (y7 : Int) := u64w (by omega) (by have h2 := HB7.out; omega)
     have e2 : IntKind.u64.wrap (x6 : Int) = (x6 : Int) := u64w (by omega) (by have h1 := HX6.out; omega)
     have e3 : 256 * (y7 : Int) + (x6 : Int) = (y6 : Int) := by omega
     have e4 : IntKind.u64.wrap (y6 : Int) = (y6 : Int) := u64w (by omega) (by have h2 := HB6.out; omega)
     have HY6 := hid hy6
     clear hy6
     go_wp2_with fail
     clear e1 e2 e3 e4
     rw [rounds_succ]
     obtain ⟨y5, hy5⟩ : ∃ y : Nat, y = x5 + 256 * y6 := ⟨_, rfl⟩
     have HB5 : Hid (y5 < 16777216) := hid (by have h1 := HX5.out; have h2 := HB6.out; omega)
     have e1 : IntKind.u64.wrap (256 * (y6 : Int)) = 256 * (y6 : Int) := u64w (by omega) (by have h2 := HB6.out; omega)
     have e2 : IntKind.u64.wrap (x5 : Int) = (x5 : Int) := u64w (by omega) (by have h1 := HX5.out; omega)
     have e3 : 256 * (y6 : Int) + (x5 : Int) = (y5 : Int) := by omega
     have e4 : IntKind.u64.wrap (y5 : Int) = (y5 : Int) := u64w (by omega) (by have h2 := HB5.out; omega)
     have HY5 := hid hy5
     clear hy5
     go_wp2_with fail
     clear e1 e2 e3 e4
     rw [rounds_succ]
     obtain ⟨y4, hy4⟩ : ∃ y : Nat, y = x4 + 256 * y5 := ⟨_, rfl⟩
     have HB4 : Hid (y4 < 4294967296) := hid (by have h1 := HX4.out; have h2 := HB5.out; omega)
     have e1 : IntKind.u64.wrap (256 * (y5 : Int)) = 256 * (y5 : Int) := u64w (by omega) (by have h2 := HB5.out; omega)
     have e2 : IntKind.u64.wrap (x4 : Int) = (x4 : Int) := u64w (by omega) (by have h1 := HX4.out; omega)
     have e3 : 256 * (y5 : Int) + (x4 : Int) = (y4 : Int) := by omega
     have e4 : IntKind.u64.wrap (y4 : Int) = (y4 : Int) := u64w (by omega) (by have h2 := HB4.out; omega)
     have HY4 := hid hy4
     clear hy4
     go_wp2_with fail
     clear e1 e2 e3 e4
     rw [rounds_succ]
     obtain ⟨y3, hy3⟩ : ∃ y : Nat, y = x3 + 256 * y4 := ⟨_, rfl⟩
     have HB3 : Hid (y3 < 1099511627776) := hid (by have h1 := HX3.out; have h2 := HB4.out; omega)
     have e1 : IntKind.u64.wrap (256 * (y4 : Int)) = 256 * (y4 : Int) := u64w (by omega) (by have h2 := HB4.out; omega)
     have e2 : IntKind.u64.wrap (x3 : Int) = (x3 : Int) := u64w (by omega) (by have h1 := HX3.out; omega)
     have e3 : 256 * (y4 : Int) + (x3 : Int) = (y3 : Int) := by omega
     have e4 : IntKind.u64.wrap (y3 : Int) = (y3 : Int) := u64w (by omega) (by have h2 := HB3.out; omega)
     have HY3 := hid hy3
     clear hy3
     go_wp2_with fail
     clear e1 e2 e3 e4
     rw [rounds_succ]
     obtain ⟨y2, hy2⟩ : ∃ y : Nat, y = x2 + 256 * y3 := ⟨_, rfl⟩
     have HB2 : Hid (y2 < 281474976710656) := hid (by have h1 := HX2.out; have h2 := HB3.out; omega)
     have e1 : IntKind.u64.wrap (256 * (y3 : Int)) = 256 * (y3 : Int) := u64w (by omega) (by have h2 := HB3.out; omega)
     have e2 : IntKind.u64.wrap (x2 : Int) = (x2 : Int) := u64w (by omega) (by have h1 := HX2.out; omega)
     have e3 : 256 * (y3 : Int) + (x2 : Int) = (y2 : Int) := by omega
     have e4 : IntKind.u64.wrap (y2 : Int) = (y2 : Int) := u64w (by omega) (by have h2 := HB2.out; omega)
     have HY2 := hid hy2
     clear hy2
     go_wp2_with fail
     clear e1 e2 e3 e4
     rw [rounds_succ]
     obtain ⟨y1, hy1⟩ : ∃ y : Nat, y = x1 + 256 * y2 := ⟨_, rfl⟩
     have HB1 : Hid (y1 < 72057594037927936) := hid (by have h1 := HX1.out; have h2 := HB2.out; omega)
     have e1 : IntKind.u64.wrap (256 * (y2 : Int)) = 256 * (y2 : Int) := u64w (by omega) (by have h2 := HB2.out; omega)
     have e2 : IntKind.u64.wrap (x1 : Int) = (x1 : Int) := u64w (by omega) (by have h1 := HX1.out; omega)
     have e3 : 256 * (y2 : Int) + (x1 : Int) = (y1 : Int) := by omega
     have e4 : IntKind.u64.wrap (y1 : Int) = (y1 : Int) := u64w (by omega) (by have h2 := HB1.out; omega)
     have HY1 := hid hy1
     clear hy1
     go_wp2_with fail
     clear e1 e2 e3 e4
     rw [rounds_succ]
     obtain ⟨y0, hy0⟩ : ∃ y : Nat, y = x0 + 256 * y1 := ⟨_, rfl⟩
     have HB0 : Hid (y0 < 18446744073709551616) := hid (by have h1 := HX0.out; have h2 := HB1.out; omega)
     have e1 : IntKind.u64.wrap (256 * (y1 : Int)) = 256 * (y1 : Int) := u64w (by omega) (by have h2 := HB1.out; omega)
     have e2 : IntKind.u64.wrap (x0 : Int) = (x0 : Int) := u64w (by omega) (by have h1 := HX0.out; omega)
     have e3 : 256 * (y1 : Int) + (x0 : Int) = (y0 : Int) := by omega
     have e4 : IntKind.u64.wrap (y0 : Int) = (y0 : Int) := u64w (by omega) (by have h2 := HB0.out; omega)
     have HY0 := hid hy0
     clear hy0
     go_wp2_with fail
     clear e1 e2 e3 e4
     have HK : Hid (H = y0) := hid (HO2.out.trans (by have h0 := HY0.out; have h1 := HY1.out; have h2 := HY2.out; have h3 := HY3.out; have h4 := HY4.out; have h5 := HY5.out; have h6 := HY6.out; have h7 := HY7.out; omega))
     rw [rounds_succ]
     go_wp2
     go_ret2
     exact ⟨by rw [HK.out]; first | rfl | (simp; done), rfl⟩
   · have HZ : Hid (H = 0) := hid (HO.out.trans (if_neg fun e => hz (HT.out.2 e)))
     have hz2 : (T.toList == [0, 0, 0, 0, 0, 0, 0, 0]) = false := by simpa using hz
     clear HO HT hz
     go_enter Tryz.func109, Tryz.ntmps109
     go_wp2
     go_ret2
     exact ⟨by rw [HZ.out]; rfl, rfl⟩
 · have HE : Hid (hOf l = 0) := hid (hOf_len hn)
   have hs : (str l).size = l.length := str_size l
   generalize str l = S at *
   generalize l.length = n at *
   have e1 : ((n : Int) == 16) = false := by simp; omega
   have e2 : decide ((n : Int) = 16) = false := by simp; omega
   have e3 : (n == 16) = false := by simpa using hn
   have e4 : decide (n = 16) = false := by simpa using hn
   have e5 : ¬ n = 16 := hn
   clear hn hll
   go_enter Tryz.func109, Tryz.ntmps109
   go_wp2
   go_ret2
   exact ⟨by rw [HE.out]; rfl, rfl⟩
theorem rpread_c (w : World) (F G : Nat → Prop) (gd gv : Nat) (d : St) (v : Va) (hd : RDev w F gd d) (hv : RVt w G gv v) (p : Pg) (hp : p.wf) (i : Int) (hi : i64ok i) (hW : d.W.length ≤ 1000000) (hG : v.G.length ≤ 1000000) (hL : v.L.length ≤ 1000000) :
 Calls Tryz.prog 69 #[.pointer (some ⟨gd, 0, none⟩), .pointer (some ⟨gv, 0, none⟩), .int .i64 i, (.agg #[.int .i64 (p).k.t, .int .i64 (p).k.c, .int .i64 (p).k.e, .int .i64 (p).id, .int .i64 (p).ver])] w fun e w' => e = .returned (.tuple #[.string (str (prB d v i p)), .int .i64 (prE d v i p)]) ∧ Below w.heap.size w w' := by
 have hb1 : Below w.heap.size w (w.alloc (.cells #[.int .i64 p.k.t, .int .i64 p.k.c, .int .i64 p.k.e, .int .i64 p.id, .int .i64 p.ver] 88)) := (Below.refl _ _).alloc (nl _) _
 have hB : PgB (w.alloc (.cells #[.int .i64 p.k.t, .int .i64 p.k.c, .int .i64 p.k.e, .int .i64 p.id, .int .i64 p.ver] 88)) w.heap.size p := Blk.new w 88 #[.int .i64 p.k.t, .int .i64 p.k.c, .int .i64 p.k.e, .int .i64 p.id, .int .i64 p.ver]
 have hs1 : (w.alloc (.cells #[.int .i64 p.k.t, .int .i64 p.k.c, .int .i64 p.k.e, .int .i64 p.id, .int .i64 p.ver] 88)).heap.size = w.heap.size + 1 := by simp
 have hR := rread_any (w.alloc (.cells #[.int .i64 p.k.t, .int .i64 p.k.c, .int .i64 p.k.e, .int .i64 p.id, .int .i64 p.ver] 88)) F gd d (hd.bel hb1) i hW
 have hlB : (rdB d i).length ≤ 1000000 := by
  by_cases h0 : rdE d i = 0
  · unfold rdB
    split
    · exact Nat.zero_le _
    · obtain ⟨_, _, _, _, hx⟩ := hd
      rw [hx.ok.S]; decide
  · rw [rdB_err h0]; exact Nat.zero_le _
 have HB1 := hid hb1
 have HPB := hid hB
 have HS1 := hid hs1
 have HV := hid hv
 have HP := hid hp
 have HI := hid hi
 have HVG := hid hG
 have HVL := hid hL
 have hH := rhandle_c (rdB d i) (w.alloc (.cells #[.int .i64 p.k.t, .int .i64 p.k.c, .int .i64 p.k.e, .int .i64 p.id, .int .i64 p.ver] 88)) hlB
 have HHL := hid (hOf_lt (rdB d i))
 clear hd hv hb1 hB hs1 hp hi hW hG hL hlB
 by_cases he : rdE d i = 0
 · rw [he] at hR
   have HE : Hid (prE d v i p = if hOf (rdB d i) = 0 then 51 else opE v p.k (besd p i) (hOf (rdB d i))) := hid (by unfold prE; rw [if_neg (by simp [he])])
   have HO : Hid (prB d v i p = if hOf (rdB d i) = 0 then [] else opB v p.k (besd p i) (hOf (rdB d i))) := hid (by unfold prB; rw [if_neg (by simp [he])])
   clear he
   generalize hOf (rdB d i) = h at *
   by_cases hz : h = 0
   · subst hz
     rw [show decide (0 < 0) = false from rfl] at hH
     have HE2 : Hid (prE d v i p = 51) := hid (HE.out.trans (if_pos rfl))
     have HO2 : Hid (prB d v i p = []) := hid (HO.out.trans (if_pos rfl))
     rw [HE2.out, HO2.out]
     clear HE HO
     go_enter Tryz.func69, Tryz.ntmps69
     go_wp2_with fail
     refine hR.mono ?_
     rintro e w2 ⟨rfl, rfl⟩
     clear hR
     go_wp2_with fail
     refine hH.mono ?_
     rintro e w3 ⟨rfl, rfl⟩
     clear hH
     go_wp2
     go_ret2
     exact ⟨rfl, HB1.out⟩
   · rw [decide_eq_true (Nat.pos_of_ne_zero hz)] at hH
     have HE2 : Hid (prE d v i p = opE v p.k (besd p i) h) := hid (HE.out.trans (if_neg hz))
     have HO2 : Hid (prB d v i p = opB v p.k (besd p i) h) := hid (HO.out.trans (if_neg hz))
     clear HE HO hz
     go_enter Tryz.func69, Tryz.ntmps69
     go_wp2_with fail
     refine hR.mono ?_
     rintro e w2 ⟨rfl, rfl⟩
     clear hR
     go_wp2_with fail
     refine hH.mono ?_
     rintro e w3 ⟨rfl, rfl⟩
     clear hH
     go_wp2_with fail
     have HB2d := hid HB1.out.drew
     have HPBd := hid (pgB_drew HPB.out)
     have HVd : Hid (RVt (w.alloc (.cells #[.int .i64 p.k.t, .int .i64 p.k.c, .int .i64 p.k.e, .int .i64 p.id, .int .i64 p.ver] 88)).drew G gv v) := hid (HV.out.bel HB2d.out)
     refine wp_region_held_drew (S := fun wx => wx.cell? ⟨w.heap.size, 0, none⟩ = some (.int .i64 p.k.t) ∧ wx.cell? ⟨w.heap.size, 1, none⟩ = some (.int .i64 p.k.c) ∧ wx.cell? ⟨w.heap.size, 2, none⟩ = some (.int .i64 p.k.e) ∧ wx.cell? ⟨w.heap.size, 3, none⟩ = some (.int .i64 p.id) ∧ wx.cell? ⟨w.heap.size, 4, none⟩ = some (.int .i64 p.ver)) (by kernel_rfl) (pgB_cells HPBd.out) (fun HS => ?_)
     generalize (w.alloc (.cells #[.int .i64 p.k.t, .int .i64 p.k.c, .int .i64 p.k.e, .int .i64 p.id, .int .i64 p.ver] 88)).drew = w4 at *
     refine qT 0 ?v0 ?y0 HS ?r0
     case y0 => refine qI fun wS hSw => ?_; go_simp; try with_reducible rfl
     try simp only [Act.put, zA]
     refine qT 1 ?v1 ?y1 HS ?r1
     case y1 => refine qI fun wS hSw => ?_; go_simp; try with_reducible rfl
     try simp only [Act.put, zA]
     refine qT 2 ?v2 ?y2 HS ?r2
     case y2 => refine qI fun wS hSw => ?_; go_simp; try with_reducible rfl
     try simp only [Act.put, zA]
     refine qT 3 ?v3 ?y3 HS ?r3
     case y3 => refine qI fun wS hSw => ?_; go_simp; try with_reducible rfl
     try simp only [Act.put, zA]
     refine qT 4 ?v4 ?y4 HS ?r4
     case y4 => refine qI fun wS hSw => ?_; go_simp; try with_reducible rfl
     try simp only [Act.put, zA]
     refine qT 6 ?v6 ?y6 HS ?r6
     case y6 => refine qI fun wS hSw => ?_; go_simp; try with_reducible rfl
     try simp only [Act.put, zA]
     refine qR 5 fun K hK => ?_
     go_simp
     refine (rbeside_c p HP.out i HI.out w4).mono ?_
     rintro e wa ⟨rfl, hba⟩
     have HBA := hid hba
     have HPBa := hid (HPBd.out.below hba HPBd.out.lt)
     clear hba
     refine hK.out _ _ (pgB_cells HPBa.out) (fun HS => ?_)
     clear hK K
     try simp only [Act.put, zA]
     refine qR 7 fun K hK => ?_
     go_simp
     refine (ropen_c wa G gv v (HVd.out.bel HBA.out) p.k (besd p i) _ h rfl HVG.out HVL.out).mono ?_
     rintro e wb ⟨rfl, hb5⟩
     have HB5 := hid (HB2d.out.trans ((HBA.out.trans (hb5.mono HBA.out.size)).mono HB2d.out.size))
     have HPBb := hid (HPBa.out.below hb5 HPBa.out.lt)
     clear hb5
     refine hK.out _ _ (pgB_cells HPBb.out) (fun HS => ?_)
     clear hK K
     try simp only [Act.put, zA]
     refine qT 8 ?v8 ?y8 HS ?r8
     case y8 => refine qI fun wS hSw => ?_; go_simp; try with_reducible rfl
     try simp only [Act.put, zA]
     refine qT 9 ?v9 ?y9 HS ?r9
     case y9 => refine qI fun wS hSw => ?_; go_simp; try with_reducible rfl
     try simp only [Act.put, zA]
     refine qT 10 ?v10 ?y10 HS ?r10
     case y10 => refine qI fun wS hSw => ?_; go_simp; try with_reducible rfl
     try simp only [Act.put, zA]
     refine qT 11 ?v11 ?y11 HS ?r11
     case y11 => refine qI fun wS hSw => ?_; go_simp; try with_reducible rfl
     try simp only [Act.put, zA]
     refine qD ?_
     go_wp2
     go_ret2
     exact ⟨by rw [HE2.out, HO2.out]; rfl, HB5.out⟩
 · have HE : Hid (prE d v i p = rdE d i) := hid (by unfold prE; rw [if_pos he])
   have HO : Hid (prB d v i p = []) := hid (by unfold prB; rw [if_pos he])
   have e1 : (rdE d i == 0) = false := by simpa using he
   have e2 : (rdE d i != 0) = true := by simpa using he
   have e3 : decide (rdE d i = 0) = false := by simpa using he
   clear hH
   generalize rdE d i = E at *
   clear he
   go_enter Tryz.func69, Tryz.ntmps69
   go_wp2_with fail
   refine hR.mono ?_
   rintro e w2 ⟨rfl, rfl⟩
   clear hR
   go_wp2
   go_ret2
   exact ⟨by rw [HE.out, HO.out]; rfl, HB1.out⟩
theorem rpwrite_c (w : World) (F : Nat → Prop) (gd gv : Nat) (d : St) (v : Va) (h : ((RDvO gd d).and (RVtO gv v)) w F) (p : Pg) (hp : p.wf) (i : Int) (hi : i64ok i) (l : List UInt8) (hW : d.W.length ≤ 100000) (hG : v.G.length ≤ 1000000) (hL : v.L.length ≤ 1000000) :
 Calls Tryz.prog 58 #[.pointer (some ⟨gd, 0, none⟩), .pointer (some ⟨gv, 0, none⟩), .int .i64 i, (.agg #[.int .i64 (p).k.t, .int .i64 (p).k.c, .int .i64 (p).k.e, .int .i64 (p).id, .int .i64 (p).ver]), .string (str l)] w fun e w' => e = .returned (.int .i64 (pwE d v i p l.length)) ∧ ((RDvO gd (pwD d v i p l.length)).and (RVtO gv (pwV d v i p l))).Left w w' F := by
 have hOk : ((RDvO gd d).and (RVtO gv v)).Ok := (RDvO.ok gd d).and (RVtO.ok gv v)
 have hb1 : Below w.heap.size w (w.alloc (.cells #[.int .i64 p.k.t, .int .i64 p.k.c, .int .i64 p.k.e, .int .i64 p.id, .int .i64 p.ver] 88)) := (Below.refl _ _).alloc (nl _) _
 have hB : PgB (w.alloc (.cells #[.int .i64 p.k.t, .int .i64 p.k.c, .int .i64 p.k.e, .int .i64 p.id, .int .i64 p.ver] 88)) w.heap.size p := Blk.new w 88 #[.int .i64 p.k.t, .int .i64 p.k.c, .int .i64 p.k.e, .int .i64 p.id, .int .i64 p.ver]
 have hs1 : (w.alloc (.cells #[.int .i64 p.k.t, .int .i64 p.k.c, .int .i64 p.k.e, .int .i64 p.id, .int .i64 p.ver] 88)).heap.size = w.heap.size + 1 := by simp
 obtain ⟨FD, hFD, -⟩ := Foc.one (Q := RVtO gv v) Foc.self (RVtO.ok gv v) (RDvO gd d) w F h
 obtain ⟨kb, kc, LA, lc, hx⟩ := RDev.bel hFD hb1
 have x0 := hx.blk.cell 0
 simp only [zD, zF] at x0
 have HOK := hid hOk
 have HB1 := hid hb1
 have HPB := hid hB
 have HS1 := hid hs1
 have HH := hid h
 have HP := hid hp
 have HI := hid hi
 have HW := hid hW
 have HVG := hid hG
 have HL := hid hL
 have HLT := hid (fun j (hj : F j) => hOk.lt w F h j hj)
 clear h hb1 hB hs1 hp hi hW hG hL hOk hFD hx
 by_cases hbad : i < 0 ∨ (d.n : Int) ≤ i
 · have HE : Hid (pwE d v i p l.length = 2) := hid (if_pos hbad)
   have HD : Hid (pwD d v i p l.length = d) := hid (if_pos hbad)
   have HV : Hid (pwV d v i p l = v) := hid (if_pos hbad)
   rw [HE.out, HD.out, HV.out]
   by_cases h0 : i < 0
   · have e1 : decide (i < 0) = true := by simpa using h0
     clear hbad h0 x0
     go_enter Tryz.func58, Tryz.ntmps58
     go_wp2
     go_ret
     exact ⟨rfl, .bel HOK.out HH.out HB1.out⟩
   · have e1 : decide (i < 0) = false := by simpa using h0
     have h2 : (d.n : Int) ≤ i := by omega
     have e2 : decide ((d.n : Int) ≤ i) = true := by simpa using h2
     clear hbad h0 h2
     go_enter Tryz.func58, Tryz.ntmps58
     go_wp2
     go_ret
     exact ⟨rfl, .bel HOK.out HH.out HB1.out⟩
 · have h0 : ¬ i < 0 := fun e => hbad (.inl e)
   have h2 : ¬ (d.n : Int) ≤ i := fun e => hbad (.inr e)
   have e1 : decide (i < 0) = false := by simpa using h0
   have e2 : decide ((d.n : Int) ≤ i) = false := by simpa using h2
   have HV : Hid (pwV d v i p l = seS v p.k (besd p i) l) := hid (if_neg hbad)
   by_cases hse : seE v p.k l.length = 0
   · have HE : Hid (pwE d v i p l.length = wrE d i 8) := hid ((if_neg hbad).trans (if_neg (by simp [hse])))
     have HD : Hid (pwD d v i p l.length = wrS d i (le8 (seH v p.k l.length))) := hid ((if_neg hbad).trans (if_neg (by simp [hse])))
     have HSE := hid hse
     clear hbad h0 h2 hse
     go_enter Tryz.func58, Tryz.ntmps58
     go_wp2_with fail
     clear e1 e2 x0
     have HPBd := hid (pgB_drew HPB.out)
     have HB1d := hid HB1.out.drew
     have HHd := hid (HOK.out.keep w _ F HH.out HB1d.out.size (fun j hj => HB1d.out.block j (HLT.out j hj)))
     refine wp_region_held_drew (S := fun wx => wx.cell? ⟨w.heap.size, 0, none⟩ = some (.int .i64 p.k.t) ∧ wx.cell? ⟨w.heap.size, 1, none⟩ = some (.int .i64 p.k.c) ∧ wx.cell? ⟨w.heap.size, 2, none⟩ = some (.int .i64 p.k.e) ∧ wx.cell? ⟨w.heap.size, 3, none⟩ = some (.int .i64 p.id) ∧ wx.cell? ⟨w.heap.size, 4, none⟩ = some (.int .i64 p.ver)) (by kernel_rfl) (pgB_cells HPBd.out) (fun HS => ?_)
     have HSZ : Hid (w.heap.size < (w.alloc (.cells #[.int .i64 p.k.t, .int .i64 p.k.c, .int .i64 p.k.e, .int .i64 p.id, .int .i64 p.ver] 88)).drew.heap.size) := hid HPBd.out.lt
     generalize (w.alloc (.cells #[.int .i64 p.k.t, .int .i64 p.k.c, .int .i64 p.k.e, .int .i64 p.id, .int .i64 p.ver] 88)).drew = w4 at *
     refine qT 0 ?vg0 ?yg0 HS ?rg0
     case yg0 => refine qI fun wS hSw => ?_; go_simp; try with_reducible rfl
     try simp only [Act.put, zA]
     refine qT 1 ?vg1 ?yg1 HS ?rg1
     case yg1 => refine qI fun wS hSw => ?_; go_simp; try with_reducible rfl
     try simp only [Act.put, zA]
     refine qT 2 ?vg2 ?yg2 HS ?rg2
     case yg2 => refine qI fun wS hSw => ?_; go_simp; try with_reducible rfl
     try simp only [Act.put, zA]
     refine qT 3 ?vg3 ?yg3 HS ?rg3
     case yg3 => refine qI fun wS hSw => ?_; go_simp; try with_reducible rfl
     try simp only [Act.put, zA]
     refine qT 4 ?vg4 ?yg4 HS ?rg4
     case yg4 => refine qI fun wS hSw => ?_; go_simp; try with_reducible rfl
     try simp only [Act.put, zA]
     refine qT 6 ?vg6 ?yg6 HS ?rg6
     case yg6 => refine qI fun wS hSw => ?_; go_simp; try with_reducible rfl
     try simp only [Act.put, zA]
     refine qR 5 fun K hK => ?_
     go_simp
     refine (rbeside_c p HP.out i HI.out w4).mono ?_
     rintro e wa ⟨rfl, hba⟩
     have HBA := hid (HB1d.out.trans (hba.mono HB1d.out.size))
     have HPBa := hid (HPBd.out.below hba HPBd.out.lt)
     have HHa := hid (HOK.out.keep w wa F HH.out HBA.out.size (fun j hj => HBA.out.block j (HLT.out j hj)))
     clear hba HHd HPBd
     refine hK.out _ _ (pgB_cells HPBa.out) (fun HS => ?_)
     clear hK K
     try simp only [Act.put, zA]
     obtain ⟨G, hG, hGs, hGf⟩ := Foc.two (Q := RDvO gd d) Foc.self (RDvO.ok gd d) (RVtO gv v) wa F HHa.out
     have hsl := rseal_c wa G gv v hG p.k (besd p i) l HVG.out HL.out
     rw [HSE.out] at hsl
     have HGB : Hid (¬ G w.heap.size) := hid (fun e => Nat.lt_irrefl _ (HLT.out _ (hGs _ e)))
     have HGF := hid hGf
     clear hG hGs hGf
     refine qR 7 fun K hK => ?_
     go_simp
     refine hsl.mono ?_
     rintro e wb ⟨rfl, hlb⟩
     have HLF := hid (Ob.Left.pre HBA.out (HGF.out wb (RVtO gv (seS v p.k (besd p i) l)) hlb))
     have HPBb : Hid (PgB wb w.heap.size p) := hid (by obtain ⟨_, -, hk, -⟩ := hlb; exact Blk.keep HPBa.out (hk.block _ HPBa.out.lt HGB.out))
     clear hsl hlb HGF
     refine hK.out _ _ (pgB_cells HPBb.out) (fun HS => ?_)
     clear hK K
     try simp only [Act.put, zA]
     refine qT 8 ?vg8 ?yg8 HS ?rg8
     case yg8 => refine qI fun wS hSw => ?_; go_simp; try with_reducible rfl
     try simp only [Act.put, zA]
     refine qT 9 ?vg9 ?yg9 HS ?rg9
     case yg9 => refine qI fun wS hSw => ?_; go_simp; try with_reducible rfl
     try simp only [Act.put, zA]
     refine qT 10 ?vg10 ?yg10 HS ?rg10
     case yg10 => refine qI fun wS hSw => ?_; go_simp; try with_reducible rfl
     try simp only [Act.put, zA]
     refine qT 11 ?vg11 ?yg11 HS ?rg11
     case yg11 => refine qI fun wS hSw => ?_; go_simp; try with_reducible rfl
     try simp only [Act.put, zA]
     refine qT 12 ?vg12 ?yg12 HS ?rg12
     case yg12 => refine qI fun wS hSw => ?_; go_simp; try with_reducible rfl
     try simp only [Act.put, zA]
     refine qD ?_
     have HHB := hid (seH_lt (v := v) (k := p.k) (n := l.length) HL.out)
     have hob := rbytes_c (seH v p.k l.length) HHB.out wb
     go_wp2_with fail
     refine hob.mono ?_
     rintro e wc ⟨rfl, hbc⟩
     obtain ⟨F1, q1, k1, s1⟩ := HLF.out
     have q2 := ((RDvO.ok gd d).and (RVtO.ok gv (seS v p.k (besd p i) l))).keep wb wc F1 q1 hbc.size (fun j hj => hbc.block j (((RDvO.ok gd d).and (RVtO.ok gv (seS v p.k (besd p i) l))).lt wb F1 q1 j hj))
     obtain ⟨FD2, hFD2, hsub, hfw⟩ := Foc.one (Q := RVtO gv (seS v p.k (besd p i) l)) Foc.self (RVtO.ok gv _) (RDvO gd d) wc F1 q2
     have hl8 : (le8 (seH v p.k l.length)).length = 8 := le_len 8 _
     have hwr := rwrite_any wc FD2 gd d hFD2 i (le8 (seH v p.k l.length)) HW.out
     rw [hl8] at hwr
     have HC := hid (fun wd (hx : RLeft wc wd FD2 gd (wrS d i (le8 (seH v p.k l.length)))) => Ob.Left.next k1 s1 (Ob.Left.pre hbc (hfw wd (RDvO gd (wrS d i (le8 (seH v p.k l.length)))) hx)))
     clear hob hbc q1 k1 s1 q2 hFD2 hsub hfw hl8 HLF
     go_wp2_with fail
     refine hwr.mono ?_
     rintro e wd ⟨rfl, hld⟩
     have HF := hid (HC.out wd hld)
     clear hwr hld HC
     go_wp2
     go_ret
     exact ⟨by rw [HE.out]; rfl, by rw [HD.out, HV.out]; exact HF.out⟩
   · have HE : Hid (pwE d v i p l.length = seE v p.k l.length) := hid ((if_neg hbad).trans (if_pos hse))
     have HD : Hid (pwD d v i p l.length = d) := hid ((if_neg hbad).trans (if_pos hse))
     have z1 : (seE v p.k l.length == 0) = false := by simpa using hse
     have z2 : (seE v p.k l.length != 0) = true := by simpa using hse
     have z3 : decide (seE v p.k l.length = 0) = false := by simpa using hse
     clear hbad h0 h2 hse
     obtain ⟨E, hE⟩ : ∃ E : Int, seE v p.k l.length = E := ⟨_, rfl⟩
     rw [hE] at z1 z2 z3
     have HSE := hid hE
     clear hE
     go_enter Tryz.func58, Tryz.ntmps58
     go_wp2_with fail
     clear e1 e2 x0
     have HPBd := hid (pgB_drew HPB.out)
     have HB1d := hid HB1.out.drew
     have HHd := hid (HOK.out.keep w _ F HH.out HB1d.out.size (fun j hj => HB1d.out.block j (HLT.out j hj)))
     refine wp_region_held_drew (S := fun wx => wx.cell? ⟨w.heap.size, 0, none⟩ = some (.int .i64 p.k.t) ∧ wx.cell? ⟨w.heap.size, 1, none⟩ = some (.int .i64 p.k.c) ∧ wx.cell? ⟨w.heap.size, 2, none⟩ = some (.int .i64 p.k.e) ∧ wx.cell? ⟨w.heap.size, 3, none⟩ = some (.int .i64 p.id) ∧ wx.cell? ⟨w.heap.size, 4, none⟩ = some (.int .i64 p.ver)) (by kernel_rfl) (pgB_cells HPBd.out) (fun HS => ?_)
     have HSZ : Hid (w.heap.size < (w.alloc (.cells #[.int .i64 p.k.t, .int .i64 p.k.c, .int .i64 p.k.e, .int .i64 p.id, .int .i64 p.ver] 88)).drew.heap.size) := hid HPBd.out.lt
     generalize (w.alloc (.cells #[.int .i64 p.k.t, .int .i64 p.k.c, .int .i64 p.k.e, .int .i64 p.id, .int .i64 p.ver] 88)).drew = w4 at *
     refine qT 0 ?vb0 ?yb0 HS ?rb0
     case yb0 => refine qI fun wS hSw => ?_; go_simp; try with_reducible rfl
     try simp only [Act.put, zA]
     refine qT 1 ?vb1 ?yb1 HS ?rb1
     case yb1 => refine qI fun wS hSw => ?_; go_simp; try with_reducible rfl
     try simp only [Act.put, zA]
     refine qT 2 ?vb2 ?yb2 HS ?rb2
     case yb2 => refine qI fun wS hSw => ?_; go_simp; try with_reducible rfl
     try simp only [Act.put, zA]
     refine qT 3 ?vb3 ?yb3 HS ?rb3
     case yb3 => refine qI fun wS hSw => ?_; go_simp; try with_reducible rfl
     try simp only [Act.put, zA]
     refine qT 4 ?vb4 ?yb4 HS ?rb4
     case yb4 => refine qI fun wS hSw => ?_; go_simp; try with_reducible rfl
     try simp only [Act.put, zA]
     refine qT 6 ?vb6 ?yb6 HS ?rb6
     case yb6 => refine qI fun wS hSw => ?_; go_simp; try with_reducible rfl
     try simp only [Act.put, zA]
     refine qR 5 fun K hK => ?_
     go_simp
     refine (rbeside_c p HP.out i HI.out w4).mono ?_
     rintro e wa ⟨rfl, hba⟩
     have HBA := hid (HB1d.out.trans (hba.mono HB1d.out.size))
     have HPBa := hid (HPBd.out.below hba HPBd.out.lt)
     have HHa := hid (HOK.out.keep w wa F HH.out HBA.out.size (fun j hj => HBA.out.block j (HLT.out j hj)))
     clear hba HHd HPBd
     refine hK.out _ _ (pgB_cells HPBa.out) (fun HS => ?_)
     clear hK K
     try simp only [Act.put, zA]
     obtain ⟨G, hG, hGs, hGf⟩ := Foc.two (Q := RDvO gd d) Foc.self (RDvO.ok gd d) (RVtO gv v) wa F HHa.out
     have hsl := rseal_c wa G gv v hG p.k (besd p i) l HVG.out HL.out
     rw [HSE.out] at hsl
     have HGB : Hid (¬ G w.heap.size) := hid (fun e => Nat.lt_irrefl _ (HLT.out _ (hGs _ e)))
     have HGF := hid hGf
     clear hG hGs hGf
     refine qR 7 fun K hK => ?_
     go_simp
     refine hsl.mono ?_
     rintro e wb ⟨rfl, hlb⟩
     have HLF := hid (Ob.Left.pre HBA.out (HGF.out wb (RVtO gv (seS v p.k (besd p i) l)) hlb))
     have HPBb : Hid (PgB wb w.heap.size p) := hid (by obtain ⟨_, -, hk, -⟩ := hlb; exact Blk.keep HPBa.out (hk.block _ HPBa.out.lt HGB.out))
     clear hsl hlb HGF
     refine hK.out _ _ (pgB_cells HPBb.out) (fun HS => ?_)
     clear hK K
     try simp only [Act.put, zA]
     refine qT 8 ?vb8 ?yb8 HS ?rb8
     case yb8 => refine qI fun wS hSw => ?_; go_simp; try with_reducible rfl
     try simp only [Act.put, zA]
     refine qT 9 ?vb9 ?yb9 HS ?rb9
     case yb9 => refine qI fun wS hSw => ?_; go_simp; try with_reducible rfl
     try simp only [Act.put, zA]
     refine qT 10 ?vb10 ?yb10 HS ?rb10
     case yb10 => refine qI fun wS hSw => ?_; go_simp; try with_reducible rfl
     try simp only [Act.put, zA]
     refine qT 11 ?vb11 ?yb11 HS ?rb11
     case yb11 => refine qI fun wS hSw => ?_; go_simp; try with_reducible rfl
     try simp only [Act.put, zA]
     refine qT 12 ?vb12 ?yb12 HS ?rb12
     case yb12 => refine qI fun wS hSw => ?_; go_simp; try with_reducible rfl
     try simp only [Act.put, zA]
     refine qD ?_
     go_wp2
     go_ret
     exact ⟨by rw [HE.out, HSE.out]; rfl, by rw [HD.out, HV.out]; exact HLF.out⟩
end Go.Proofs.YtolaojkcofbkhaaGreat
