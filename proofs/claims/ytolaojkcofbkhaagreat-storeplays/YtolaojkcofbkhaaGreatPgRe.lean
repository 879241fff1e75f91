import Derived.Test.YtolaojkcofbkhaaGreatPkW1
import Derived.LoopN
import Derived.Test.YtolaojkcofbkhaaGreatPgDf
namespace Go.Proofs.YtolaojkcofbkhaaGreat
set_option maxRecDepth 100000
set_option maxHeartbeats 4000000
open Go.RowKit
theorem numb_c (A : Option Addr) (n c : Nat) (x : Int) (l : List UInt8) (w : World) (hr : Bts w 0 w.heap.size A n l) (hn : n ≤ 1000) (h : i64ok x) :
 Calls Tryz.prog 120 #[.slice A n c, .int .i64 x] w fun e w' => ∃ A' n' c', e = .returned (.slice A' n' c') ∧ Bts w' 0 w'.heap.size A' n' (l ++ num x) ∧ n' ≤ n + 10 ∧ Below w.heap.size w w' := by
 refine (number_c A n c x l w hr (by omega) h.1 h.2).mono ?_
 intro e w' hrow
 obtain ⟨A', n', c', rfl, hl, -, -, hb, hbel⟩ := hrow.out
 have h10 := num_len h
 have := hl.out
 have h2 := hr.len
 rw [List.length_append] at this
 exact ⟨A', n', c', rfl, hb.wide (Nat.zero_le _) (nl _), by unfold num at h10; omega, hbel⟩
theorem beside_c (p : Pg) (hp : p.wf) (b : Int) (hb : i64ok b) (w : World) :
 Calls Tryz.prog 108 #[(.agg #[.int .i64 (p).k.t, .int .i64 (p).k.c, .int .i64 (p).k.e, .int .i64 (p).id, .int .i64 (p).ver]), .int .i64 b] w fun e w' => e = .returned (.string (str (besd p b))) ∧ Below w.heap.size w w' := by
 have i0 : ∀ wx, (Instr.index 212 (.agg #[.int .i64 p.k.t, .int .i64 p.k.c, .int .i64 p.k.e, .int .i64 p.id, .int .i64 p.ver, .int .i64 b]) (.int .i64 0)).run Tryz.prog wx = .ok (.int .i64 p.k.t) wx := fun _ => by kernel_rfl
 have i1 : ∀ wx, (Instr.index 212 (.agg #[.int .i64 p.k.t, .int .i64 p.k.c, .int .i64 p.k.e, .int .i64 p.id, .int .i64 p.ver, .int .i64 b]) (.int .i64 1)).run Tryz.prog wx = .ok (.int .i64 p.k.c) wx := fun _ => by kernel_rfl
 have i2 : ∀ wx, (Instr.index 212 (.agg #[.int .i64 p.k.t, .int .i64 p.k.c, .int .i64 p.k.e, .int .i64 p.id, .int .i64 p.ver, .int .i64 b]) (.int .i64 2)).run Tryz.prog wx = .ok (.int .i64 p.k.e) wx := fun _ => by kernel_rfl
 have i3 : ∀ wx, (Instr.index 212 (.agg #[.int .i64 p.k.t, .int .i64 p.k.c, .int .i64 p.k.e, .int .i64 p.id, .int .i64 p.ver, .int .i64 b]) (.int .i64 3)).run Tryz.prog wx = .ok (.int .i64 p.id) wx := fun _ => by kernel_rfl
 have i4 : ∀ wx, (Instr.index 212 (.agg #[.int .i64 p.k.t, .int .i64 p.k.c, .int .i64 p.k.e, .int .i64 p.id, .int .i64 p.ver, .int .i64 b]) (.int .i64 4)).run Tryz.prog wx = .ok (.int .i64 p.ver) wx := fun _ => by kernel_rfl
 have i5 : ∀ wx, (Instr.index 212 (.agg #[.int .i64 p.k.t, .int .i64 p.k.c, .int .i64 p.k.e, .int .i64 p.id, .int .i64 p.ver, .int .i64 b]) (.int .i64 5)).run Tryz.prog wx = .ok (.int .i64 b) wx := fun _ => by kernel_rfl
 have HP := hid hp
 have HI := hid hb
 have HB0 : Hid (Below w.heap.size w (w.alloc (.cells #[.int .i64 p.k.t, .int .i64 p.k.c, .int .i64 p.k.e, .int .i64 p.id, .int .i64 p.ver] 88))) := hid ((Below.refl _ _).alloc (nl _) _)
 have HE : Hid (besd p b = num p.k.t ++ (num p.k.c ++ (num p.k.e ++ (num p.id ++ (num p.ver ++ num b))))) := hid (by simp only [besd, List.append_assoc])
 clear hp hb
 go_enter Tryz.func108, Tryz.ntmps108
 go_wp2_with fail
 refine wp_loop_rounds 7 ?_
 rw [rounds_succ]
 go_wp2_with fail
 refine (numb_c _ _ _ _ _ _ (Bts.nil _ _ _ _) (by omega) HP.out.1.1).mono ?_
 rintro e w1 ⟨A1, n1, c1, rfl, hb1, hn1, hw1⟩
 have HB1 := hid hb1
 have HN1 := hid hn1
 have HW1 := hid (HB0.out.trans (hw1.mono HB0.out.size))
 clear hb1 hn1 hw1 HB0
 go_wp2_with fail
 rw [rounds_succ]
 go_wp2_with fail
 refine (numb_c _ _ _ _ _ _ HB1.out (by have := HN1.out; omega) HP.out.1.2.1).mono ?_
 rintro e w2 ⟨A2, n2, c2, rfl, hb2, hn2, hw2⟩
 have HB2 := hid hb2
 have HN2 : Hid (n2 ≤ 20) := hid (by have := HN1.out; omega)
 have HW2 := hid (HW1.out.trans (hw2.mono HW1.out.size))
 clear hb2 hn2 hw2 HB1 HN1 HW1
 go_wp2_with fail
 rw [rounds_succ]
 go_wp2_with fail
 refine (numb_c _ _ _ _ _ _ HB2.out (by have := HN2.out; omega) HP.out.1.2.2).mono ?_
 rintro e w3 ⟨A3, n3, c3, rfl, hb3, hn3, hw3⟩
 have HB3 := hid hb3
 have HN3 : Hid (n3 ≤ 30) := hid (by have := HN2.out; omega)
 have HW3 := hid (HW2.out.trans (hw3.mono HW2.out.size))
 clear hb3 hn3 hw3 HB2 HN2 HW2
 go_wp2_with fail
 rw [rounds_succ]
 go_wp2_with fail
 refine (numb_c _ _ _ _ _ _ HB3.out (by have := HN3.out; omega) HP.out.2.1).mono ?_
 rintro e w4 ⟨A4, n4, c4, rfl, hb4, hn4, hw4⟩
 have HB4 := hid hb4
 have HN4 : Hid (n4 ≤ 40) := hid (by have := HN3.out; omega)
 have HW4 := hid (HW3.out.trans (hw4.mono HW3.out.size))
 clear hb4 hn4 hw4 HB3 HN3 HW3
 go_wp2_with fail
 rw [rounds_succ]
 go_wp2_with fail
 refine (numb_c _ _ _ _ _ _ HB4.out (by have := HN4.out; omega) HP.out.2.2).mono ?_
 rintro e w5 ⟨A5, n5, c5, rfl, hb5, hn5, hw5⟩
 have HB5 := hid hb5
 have HN5 : Hid (n5 ≤ 50) := hid (by have := HN4.out; omega)
 have HW5 := hid (HW4.out.trans (hw5.mono HW4.out.size))
 clear hb5 hn5 hw5 HB4 HN4 HW4
 go_wp2_with fail
 rw [rounds_succ]
 go_wp2_with fail
 refine (numb_c _ _ _ _ _ _ HB5.out (by have := HN5.out; omega) HI.out).mono ?_
 rintro e w6 ⟨A6, n6, c6, rfl, hb6, hn6, hw6⟩
 have HB6 := hid hb6
 have HW6 := hid (HW5.out.trans (hw6.mono HW5.out.size))
 have hst := run_str (P := Tryz.prog) (c := c6) 51 9 5 Tryz.underlying51 Tryz.underlying5 Tryz.underlying9 HB6.out
 clear hb6 hn6 hw6 HB5 HN5 HW5
 go_wp2_with fail
 rw [rounds_succ]
 go_wp2
 go_ret
 exact ⟨by rw [HE.out]; rfl, HW6.out⟩
theorem bs_le8 (h : Nat) : bs (le8 h) = [.int .u8 ((h : Int) % 256), .int .u8 ((h : Int) / 256 % 256), .int .u8 ((h : Int) / 65536 % 256), .int .u8 ((h : Int) / 16777216 % 256), .int .u8 ((h : Int) / 4294967296 % 256), .int .u8 ((h : Int) / 1099511627776 % 256), .int .u8 ((h : Int) / 281474976710656 % 256), .int .u8 ((h : Int) / 72057594037927936 % 256)] := by
 simp [bs, le8, le, Nat.div_div_eq_div_mul]
theorem onblock_c (h : Nat) (hh : h < 18446744073709551616) (w : World) :
 Calls Tryz.prog 128 #[.int .u64 (h : Int)] w fun e w' => ∃ A c, e = .returned (.slice A 8 c) ∧ w'.ownsRow w.heap.size 5 1 (.slice A 8 c) 8 (bs (le8 h)) ∧ Below w.heap.size w w' := by
 have HH := hid hh
 have hmk : ∀ wx, (Instr.makeSlice 51 (.int .i64 8) (.int .i64 8)).run Tryz.prog wx = .ok (.slice (some ⟨wx.heap.size, 0, none⟩) 8 8) (wx.alloc (.cells #[.int .u8 0, .int .u8 0, .int .u8 0, .int .u8 0, .int .u8 0, .int .u8 0, .int .u8 0, .int .u8 0] 5)) := fun _ => by kernel_rfl
 clear hh
 go_enter Tryz.func128, Tryz.ntmps128
 go_wp2_with fail
 refine wp_loop_rounds 9 ?_
 iterate 8
  rw [rounds_succ]
  go_wp2_with fail
 rw [rounds_succ]
 go_wp2
 go_ret
 refine ⟨_, _, rfl, ?_, (Below.refl _ _).alloc (nl _) _⟩
 rw [bs_le8]
 exact World.ownsRow_lit w #[_, _, _, _, _, _, _, _] 8 (nl _) (by decide) rfl
theorem hOf16 (b0 b1 b2 b3 b4 b5 b6 b7 b8 b9 b10 b11 b12 b13 b14 b15 : UInt8) :
 hOf [b0, b1, b2, b3, b4, b5, b6, b7, b8, b9, b10, b11, b12, b13, b14, b15] = if b8.toNat = 0 ∧ b9.toNat = 0 ∧ b10.toNat = 0 ∧ b11.toNat = 0 ∧ b12.toNat = 0 ∧ b13.toNat = 0 ∧ b14.toNat = 0 ∧ b15.toNat = 0 then b0.toNat + 256 * (b1.toNat + 256 * (b2.toNat + 256 * (b3.toNat + 256 * (b4.toNat + 256 * (b5.toNat + 256 * (b6.toNat + 256 * b7.toNat)))))) else 0 := by
 have e : ∀ b : UInt8, b.toNat = 0 ↔ b = 0 := fun b => ⟨fun h => UInt8.toNat_inj.1 (by simpa using h), fun h => by rw [h]; rfl⟩
 unfold hOf
 simp only [e]
 simp [List.replicate, lev]
theorem pos_ne0 (y : Nat) : decide (0 < y) = ((y : Int) != 0) := by
 rcases Nat.eq_zero_or_pos y with h | h
 · subst h; rfl
 · rw [decide_eq_true h]
   symm
   simp
   omega
theorem or_at (a x k y : Nat) (M : Int) (hM : M = ((2 ^ k : Nat) : Int)) (hk : 2 ^ k < 18446744073709551616) (hy : y = a + 2 ^ k * x) (ha : a < 2 ^ k) (hx : 2 ^ k * x < 18446744073709551616) : bits .or .u64 (a : Int) ((x : Int) * M) = (y : Int) := by
 have h1 := u64_or_nat a (2 ^ k * x) (by omega) hx
 have h2 := Nat.shiftLeft_add_eq_or_of_lt ha x
 rw [Nat.shiftLeft_eq, Nat.mul_comm] at h2
 rw [hM, show (x : Int) * ((2 ^ k : Nat) : Int) = ((2 ^ k * x : Nat) : Int) by rw [Int.natCast_mul, Int.mul_comm], h1, hy, Nat.or_comm, ← h2, Nat.add_comm]
theorem handle_c (A : Option Addr) (n c : Nat) (l : List UInt8) (w : World) (hr : Bts w 0 w.heap.size A n l) (hc : n ≤ c) (hcm : c ≤ maxLen) :
 Calls Tryz.prog 107 #[.slice A n c] w fun e w' => e = .returned (.tuple #[.int .u64 (hOf l : Int), .bool (decide (0 < hOf l))]) ∧ w = w' := by
 by_cases hn : n = 16
 · subst hn
   obtain ⟨g, off, rfl, -, -, hcell⟩ := hr.2 (by decide)
   match l, hr.1 with
   | [b0, b1, b2, b3, b4, b5, b6, b7, b8, b9, b10, b11, b12, b13, b14, b15], _ =>
   have c0 : w.cell? ⟨g, off, none⟩ = some (.int .u8 (b0.toNat : Int)) := hcell 0 _ rfl
   have c1 : w.cell? ⟨g, off + 1, none⟩ = some (.int .u8 (b1.toNat : Int)) := hcell 1 _ rfl
   have c2 : w.cell? ⟨g, off + 2, none⟩ = some (.int .u8 (b2.toNat : Int)) := hcell 2 _ rfl
   have c3 : w.cell? ⟨g, off + 3, none⟩ = some (.int .u8 (b3.toNat : Int)) := hcell 3 _ rfl
   have c4 : w.cell? ⟨g, off + 4, none⟩ = some (.int .u8 (b4.toNat : Int)) := hcell 4 _ rfl
   have c5 : w.cell? ⟨g, off + 5, none⟩ = some (.int .u8 (b5.toNat : Int)) := hcell 5 _ rfl
   have c6 : w.cell? ⟨g, off + 6, none⟩ = some (.int .u8 (b6.toNat : Int)) := hcell 6 _ rfl
   have c7 : w.cell? ⟨g, off + 7, none⟩ = some (.int .u8 (b7.toNat : Int)) := hcell 7 _ rfl
   have c8 : w.cell? ⟨g, off + 8, none⟩ = some (.int .u8 (b8.toNat : Int)) := hcell 8 _ rfl
   have c9 : w.cell? ⟨g, off + 9, none⟩ = some (.int .u8 (b9.toNat : Int)) := hcell 9 _ rfl
   have c10 : w.cell? ⟨g, off + 10, none⟩ = some (.int .u8 (b10.toNat : Int)) := hcell 10 _ rfl
   have c11 : w.cell? ⟨g, off + 11, none⟩ = some (.int .u8 (b11.toNat : Int)) := hcell 11 _ rfl
   have c12 : w.cell? ⟨g, off + 12, none⟩ = some (.int .u8 (b12.toNat : Int)) := hcell 12 _ rfl
   have c13 : w.cell? ⟨g, off + 13, none⟩ = some (.int .u8 (b13.toNat : Int)) := hcell 13 _ rfl
   have c14 : w.cell? ⟨g, off + 14, none⟩ = some (.int .u8 (b14.toNat : Int)) := hcell 14 _ rfl
   have c15 : w.cell? ⟨g, off + 15, none⟩ = some (.int .u8 (b15.toNat : Int)) := hcell 15 _ rfl
   have HO := hid (hOf16 b0 b1 b2 b3 b4 b5 b6 b7 b8 b9 b10 b11 b12 b13 b14 b15)
   have hx0 := b0.toNat_lt
   generalize b0.toNat = x0 at *
   have hx1 := b1.toNat_lt
   generalize b1.toNat = x1 at *
   have hx2 := b2.toNat_lt
   generalize b2.toNat = x2 at *
   have hx3 := b3.toNat_lt
   generalize b3.toNat = x3 at *
   have hx4 := b4.toNat_lt
   generalize b4.toNat = x4 at *
   have hx5 := b5.toNat_lt
   generalize b5.toNat = x5 at *
   have hx6 := b6.toNat_lt
   generalize b6.toNat = x6 at *
   have hx7 := b7.toNat_lt
   generalize b7.toNat = x7 at *
   have hx8 := b8.toNat_lt
   generalize b8.toNat = x8 at *
   have hx9 := b9.toNat_lt
   generalize b9.toNat = x9 at *
   have hx10 := b10.toNat_lt
   generalize b10.toNat = x10 at *
   have hx11 := b11.toNat_lt
   generalize b11.toNat = x11 at *
   have hx12 := b12.toNat_lt
   generalize b12.toNat = x12 at *
   have hx13 := b13.toNat_lt
   generalize b13.toNat = x13 at *
   have hx14 := b14.toNat_lt
   generalize b14.toNat = x14 at *
   have hx15 := b15.toNat_lt
   generalize b15.toNat = x15 at *
   generalize hOf [b0, b1, b2, b3, b4, b5, b6, b7, b8, b9, b10, b11, b12, b13, b14, b15] = H at *
   have HX0 := hid hx0
   have HX1 := hid hx1
   have HX2 := hid hx2
   have HX3 := hid hx3
   have HX4 := hid hx4
   have HX5 := hid hx5
   have HX6 := hid hx6
   have HX7 := hid hx7
   have HX8 := hid hx8
   have HX9 := hid hx9
   have HX10 := hid hx10
   have HX11 := hid hx11
   have HX12 := hid hx12
   have HX13 := hid hx13
   have HX14 := hid hx14
   have HX15 := hid hx15
   clear hcell hr hx0 hx1 hx2 hx3 hx4 hx5 hx6 hx7 hx8 hx9 hx10 hx11 hx12 hx13 hx14 hx15
   have hc8 : ¬ c = 8 := by omega
   have hc0 : ¬ c = 0 := by omega
   have hg8 : (8 : Int) ≤ (c : Int) := by omega
   have hg9 : ¬ (c : Int) < 8 := by omega
   have HC := hid hc
   have HCM := hid hcm
   clear hc hcm
   go_enter Tryz.func107, Tryz.ntmps107
   go_wp2_with fail
   refine wp_loop_rounds 9 ?_
   rw [rounds_succ]
   by_cases z8 : ¬ x8 = 0
   · have HZ : Hid (H = 0) := hid (HO.out.trans (if_neg fun e => z8 (by have := e; omega)))
     have e1 : ((x8 : Int) == 0) = false := by simpa using z8
     have e2 : decide ((x8 : Int) = 0) = false := by simpa using z8
     have e3 : (x8 == 0) = false := by simpa using z8
     have e4 : decide (x8 = 0) = false := by simpa using z8
     have e5 : ¬ x8 = 0 := z8
     clear z8
     as_aux_lemma =>
     go_wp2
     go_ret2
     exact ⟨by rw [HZ.out]; rfl, rfl⟩
   obtain rfl : x8 = 0 := Classical.byContradiction z8
   clear z8
   go_wp2_with fail
   rw [rounds_succ]
   by_cases z9 : ¬ x9 = 0
   · have HZ : Hid (H = 0) := hid (HO.out.trans (if_neg fun e => z9 (by have := e; omega)))
     have e1 : ((x9 : Int) == 0) = false := by simpa using z9
     have e2 : decide ((x9 : Int) = 0) = false := by simpa using z9
     have e3 : (x9 == 0) = false := by simpa using z9
     have e4 : decide (x9 = 0) = false := by simpa using z9
     have e5 : ¬ x9 = 0 := z9
     clear z9
     as_aux_lemma =>
     go_wp2
     go_ret2
     exact ⟨by rw [HZ.out]; rfl, rfl⟩
   obtain rfl : x9 = 0 := Classical.byContradiction z9
   clear z9
   go_wp2_with fail
   rw [rounds_succ]
   by_cases z10 : ¬ x10 = 0
   · have HZ : Hid (H = 0) := hid (HO.out.trans (if_neg fun e => z10 (by have := e; omega)))
     have e1 : ((x10 : Int) == 0) = false := by simpa using z10
     have e2 : decide ((x10 : Int) = 0) = false := by simpa using z10
     have e3 : (x10 == 0) = false := by simpa using z10
     have e4 : decide (x10 = 0) = false := by simpa using z10
     have e5 : ¬ x10 = 0 := z10
     clear z10
     as_aux_lemma =>
     go_wp2
     go_ret2
     exact ⟨by rw [HZ.out]; rfl, rfl⟩
   obtain rfl : x10 = 0 := Classical.byContradiction z10
   clear z10
   go_wp2_with fail
   rw [rounds_succ]
   by_cases z11 : ¬ x11 = 0
   · have HZ : Hid (H = 0) := hid (HO.out.trans (if_neg fun e => z11 (by have := e; omega)))
     have e1 : ((x11 : Int) == 0) = false := by simpa using z11
     have e2 : decide ((x11 : Int) = 0) = false := by simpa using z11
     have e3 : (x11 == 0) = false := by simpa using z11
     have e4 : decide (x11 = 0) = false := by simpa using z11
     have e5 : ¬ x11 = 0 := z11
     clear z11
     as_aux_lemma =>
     go_wp2
     go_ret2
     exact ⟨by rw [HZ.out]; rfl, rfl⟩
   obtain rfl : x11 = 0 := Classical.byContradiction z11
   clear z11
   go_wp2_with fail
   rw [rounds_succ]
   by_cases z12 : ¬ x12 = 0
   · have HZ : Hid (H = 0) := hid (HO.out.trans (if_neg fun e => z12 (by have := e; omega)))
     have e1 : ((x12 : Int) == 0) = false := by simpa using z12
     have e2 : decide ((x12 : Int) = 0) = false := by simpa using z12
     have e3 : (x12 == 0) = false := by simpa using z12
     have e4 : decide (x12 = 0) = false := by simpa using z12
     have e5 : ¬ x12 = 0 := z12
     clear z12
     as_aux_lemma =>
     go_wp2
     go_ret2
     exact ⟨by rw [HZ.out]; rfl, rfl⟩
   obtain rfl : x12 = 0 := Classical.byContradiction z12
   clear z12
   go_wp2_with fail
   rw [rounds_succ]
   by_cases z13 : ¬ x13 = 0
   · have HZ : Hid (H = 0) := hid (HO.out.trans (if_neg fun e => z13 (by have := e; omega)))
     have e1 : ((x13 : Int) == 0) = false := by simpa using z13
     have e2 : decide ((x13 : Int) = 0) = false := by simpa using z13
     have e3 : (x13 == 0) = false := by simpa using z13
     have e4 : decide (x13 = 0) = false := by simpa using z13
     have e5 : ¬ x13 = 0 := z13
     clear z13
     as_aux_lemma =>
     go_wp2
     go_ret2
     exact ⟨by rw [HZ.out]; rfl, rfl⟩
   obtain rfl : x13 = 0 := Classical.byContradiction z13
   clear z13
   go_wp2_with fail
   rw [rounds_succ]
   by_cases z14 : ¬ x14 = 0
   · have HZ : Hid (H = 0) := hid (HO.out.trans (if_neg fun e => z14 (by have := e; omega)))
     have e1 : ((x14 : Int) == 0) = false := by simpa using z14
     have e2 : decide ((x14 : Int) = 0) = false := by simpa using z14
     have e3 : (x14 == 0) = false := by simpa using z14
     have e4 : decide (x14 = 0) = false := by simpa using z14
     have e5 : ¬ x14 = 0 := z14
     clear z14
     as_aux_lemma =>
     go_wp2
     go_ret2
     exact ⟨by rw [HZ.out]; rfl, rfl⟩
   obtain rfl : x14 = 0 := Classical.byContradiction z14
   clear z14
   go_wp2_with fail
   rw [rounds_succ]
   by_cases z15 : ¬ x15 = 0
   · have HZ : Hid (H = 0) := hid (HO.out.trans (if_neg fun e => z15 (by have := e; omega)))
     have e1 : ((x15 : Int) == 0) = false := by simpa using z15
     have e2 : decide ((x15 : Int) = 0) = false := by simpa using z15
     have e3 : (x15 == 0) = false := by simpa using z15
     have e4 : decide (x15 = 0) = false := by simpa using z15
     have e5 : ¬ x15 = 0 := z15
     clear z15
     as_aux_lemma =>
     go_wp2
     go_ret2
     exact ⟨by rw [HZ.out]; rfl, rfl⟩
   obtain rfl : x15 = 0 := Classical.byContradiction z15
   clear z15
   go_wp2_with fail
   rw [rounds_succ]
   go_wp2_with fail
   have HO2 : Hid (H = x0 + 256 * (x1 + 256 * (x2 + 256 * (x3 + 256 * (x4 + 256 * (x5 + 256 * (x6 + 256 * x7))))))) := hid (HO.out.trans (by simp))
   clear HO
   refine wp_loop_rounds 9 ?_
   have o0 : bits .or .u64 0 (x0 : Int) = (x0 : Int) := by have h1 := HX0.out; have h2 := u64_or_nat 0 x0 (by omega) (by omega); simpa using h2
   have q0 : IntKind.u64.wrap (x0 : Int) = (x0 : Int) := IntWalk.u64_in _ (by have h1 := HX0.out; omega)
   rw [rounds_succ]
   go_wp2_with fail
   clear o0 q0
   rw [rounds_succ]
   obtain ⟨y1, hy1⟩ : ∃ y : Nat, y = x0 + 256 * x1 := ⟨_, rfl⟩
   have HY1 := hid hy1
   have HL1 : Hid (y1 < 65536) := hid (by have h1 := HX0.out; have h2 := HX1.out; omega)
   have o1 : bits .or .u64 (x0 : Int) ((x1 : Int) * 256) = (y1 : Int) := or_at x0 x1 8 y1 256 rfl (by decide) hy1 (by have h1 := HX0.out; omega) (by have h1 := HX1.out; omega)
   have q1 : IntKind.u64.wrap (x1 : Int) = (x1 : Int) := IntWalk.u64_in _ (by have h1 := HX1.out; omega)
   have r1 : IntKind.u64.wrap ((x1 : Int) * 256) = (x1 : Int) * 256 := IntWalk.u64_in _ (by have h1 := HX1.out; omega)
   clear hy1
   go_wp2_with fail
   clear o1 q1 r1
   rw [rounds_succ]
   obtain ⟨y2, hy2⟩ : ∃ y : Nat, y = y1 + 65536 * x2 := ⟨_, rfl⟩
   have HY2 := hid hy2
   have HL2 : Hid (y2 < 16777216) := hid (by have h1 := HL1.out; have h2 := HX2.out; omega)
   have o2 : bits .or .u64 (y1 : Int) ((x2 : Int) * 65536) = (y2 : Int) := or_at y1 x2 16 y2 65536 rfl (by decide) hy2 (by have h1 := HL1.out; omega) (by have h1 := HX2.out; omega)
   have q2 : IntKind.u64.wrap (x2 : Int) = (x2 : Int) := IntWalk.u64_in _ (by have h1 := HX2.out; omega)
   have r2 : IntKind.u64.wrap ((x2 : Int) * 65536) = (x2 : Int) * 65536 := IntWalk.u64_in _ (by have h1 := HX2.out; omega)
   clear hy2
   go_wp2_with fail
   clear o2 q2 r2
   rw [rounds_succ]
   obtain ⟨y3, hy3⟩ : ∃ y : Nat, y = y2 + 16777216 * x3 := ⟨_, rfl⟩
   have HY3 := hid hy3
   have HL3 : Hid (y3 < 4294967296) := hid (by have h1 := HL2.out; have h2 := HX3.out; omega)
   have o3 : bits .or .u64 (y2 : Int) ((x3 : Int) * 16777216) = (y3 : Int) := or_at y2 x3 24 y3 16777216 rfl (by decide) hy3 (by have h1 := HL2.out; omega) (by have h1 := HX3.out; omega)
   have q3 : IntKind.u64.wrap (x3 : Int) = (x3 : Int) := IntWalk.u64_in _ (by have h1 := HX3.out; omega)
   have r3 : IntKind.u64.wrap ((x3 : Int) * 16777216) = (x3 : Int) * 16777216 := IntWalk.u64_in _ (by have h1 := HX3.out; omega)
   clear hy3
   go_wp2_with fail
   clear o3 q3 r3
   rw [rounds_succ]
   obtain ⟨y4, hy4⟩ : ∃ y : Nat, y = y3 + 4294967296 * x4 := ⟨_, rfl⟩
   have HY4 := hid hy4
   have HL4 : Hid (y4 < 1099511627776) := hid (by have h1 := HL3.out; have h2 := HX4.out; omega)
   have o4 : bits .or .u64 (y3 : Int) ((x4 : Int) * 4294967296) = (y4 : Int) := or_at y3 x4 32 y4 4294967296 rfl (by decide) hy4 (by have h1 := HL3.out; omega) (by have h1 := HX4.out; omega)
   have q4 : IntKind.u64.wrap (x4 : Int) = (x4 : Int) := IntWalk.u64_in _ (by have h1 := HX4.out; omega)
   have r4 : IntKind.u64.wrap ((x4 : Int) * 4294967296) = (x4 : Int) * 4294967296 := IntWalk.u64_in _ (by have h1 := HX4.out; omega)
   clear hy4
   go_wp2_with fail
   clear o4 q4 r4
   rw [rounds_succ]
   obtain ⟨y5, hy5⟩ : ∃ y : Nat, y = y4 + 1099511627776 * x5 := ⟨_, rfl⟩
   have HY5 := hid hy5
   have HL5 : Hid (y5 < 281474976710656) := hid (by have h1 := HL4.out; have h2 := HX5.out; omega)
   have o5 : bits .or .u64 (y4 : Int) ((x5 : Int) * 1099511627776) = (y5 : Int) := or_at y4 x5 40 y5 1099511627776 rfl (by decide) hy5 (by have h1 := HL4.out; omega) (by have h1 := HX5.out; omega)
   have q5 : IntKind.u64.wrap (x5 : Int) = (x5 : Int) := IntWalk.u64_in _ (by have h1 := HX5.out; omega)
   have r5 : IntKind.u64.wrap ((x5 : Int) * 1099511627776) = (x5 : Int) * 1099511627776 := IntWalk.u64_in _ (by have h1 := HX5.out; omega)
   clear hy5
   go_wp2_with fail
   clear o5 q5 r5
   rw [rounds_succ]
   obtain ⟨y6, hy6⟩ : ∃ y : Nat, y = y5 + 281474976710656 * x6 := ⟨_, rfl⟩
   have HY6 := hid hy6
   have HL6 : Hid (y6 < 72057594037927936) := hid (by have h1 := HL5.out; have h2 := HX6.out; omega)
   have o6 : bits .or .u64 (y5 : Int) ((x6 : Int) * 281474976710656) = (y6 : Int) := or_at y5 x6 48 y6 281474976710656 rfl (by decide) hy6 (by have h1 := HL5.out; omega) (by have h1 := HX6.out; omega)
   have q6 : IntKind.u64.wrap (x6 : Int) = (x6 : Int) := IntWalk.u64_in _ (by have h1 := HX6.out; omega)
   have r6 : IntKind.u64.wrap ((x6 : Int) * 281474976710656) = (x6 : Int) * 281474976710656 := IntWalk.u64_in _ (by have h1 := HX6.out; omega)
   clear hy6
   go_wp2_with fail
   clear o6 q6 r6
   rw [rounds_succ]
   obtain ⟨y7, hy7⟩ : ∃ y : Nat, y = y6 + 72057594037927936 * x7 := ⟨_, rfl⟩
   have HY7 := hid hy7
   have HL7 : Hid (y7 < 18446744073709551616) := hid (by have h1 := HL6.out; have h2 := HX7.out; omega)
   have o7 : bits .or .u64 (y6 : Int) ((x7 : Int) * 72057594037927936) = (y7 : Int) := or_at y6 x7 56 y7 72057594037927936 rfl (by decide) hy7 (by have h1 := HL6.out; omega) (by have h1 := HX7.out; omega)
   have q7 : IntKind.u64.wrap (x7 : Int) = (x7 : Int) := IntWalk.u64_in _ (by have h1 := HX7.out; omega)
   have r7 : IntKind.u64.wrap ((x7 : Int) * 72057594037927936) = (x7 : Int) * 72057594037927936 := IntWalk.u64_in _ (by have h1 := HX7.out; omega)
   clear hy7
   go_wp2_with fail
   clear o7 q7 r7
   obtain ⟨K, hK⟩ : ∃ K : Nat, K = H := ⟨_, rfl⟩
   have HK : Hid (H = y7) := hid (HO2.out.trans (by have h1 := HY1.out; have h2 := HY2.out; have h3 := HY3.out; have h4 := HY4.out; have h5 := HY5.out; have h6 := HY6.out; have h7 := HY7.out; omega))
   clear hK
   rw [rounds_succ]
   go_wp2
   go_ret2
   exact ⟨by rw [HK.out, pos_ne0]; rfl, rfl⟩
 · have HL := hid hr.len
   have HE : Hid (hOf l = 0) := hid (hOf_len (by rw [hr.len]; exact hn))
   have e1 : ((n : Int) == 16) = false := by simp; omega
   have e2 : decide ((n : Int) = 16) = false := by simp; omega
   have e3 : (n == 16) = false := by simpa using hn
   have e4 : decide (n = 16) = false := by simpa using hn
   have e5 : ¬ n = 16 := hn
   clear hr hc hcm hn
   go_enter Tryz.func107, Tryz.ntmps107
   go_wp2
   go_ret2
   exact ⟨by rw [HE.out]; rfl, rfl⟩
theorem pread_c (w : World) (F G : Nat → Prop) (gd gv : Nat) (d : St) (v : Va) (hd : Dev w F gd d) (hv : Vlt w G gv v) (p : Pg) (hp : p.wf) (i : Int) (hi : i64ok i) :
 Calls Tryz.prog 68 #[.pointer (some ⟨gd, 0, none⟩), .pointer (some ⟨gv, 0, none⟩), .int .i64 i, (.agg #[.int .i64 (p).k.t, .int .i64 (p).k.c, .int .i64 (p).k.e, .int .i64 (p).id, .int .i64 (p).ver])] w fun e w' => ∃ A n c, e = .returned (.tuple #[.slice A n c, .int .i64 (prE d v i p)]) ∧ w'.ownsRow w.heap.size 5 1 (.slice A n c) n (bs (prB d v i p)) ∧ n ≤ 65536 ∧ Below w.heap.size w w' := by
 have hb1 : Below w.heap.size w (w.alloc (.cells #[.int .i64 p.k.t, .int .i64 p.k.c, .int .i64 p.k.e, .int .i64 p.id, .int .i64 p.ver] 88)) := (Below.refl _ _).alloc (nl _) _
 have hB : PgB (w.alloc (.cells #[.int .i64 p.k.t, .int .i64 p.k.c, .int .i64 p.k.e, .int .i64 p.id, .int .i64 p.ver] 88)) w.heap.size p := Blk.new w 88 #[.int .i64 p.k.t, .int .i64 p.k.c, .int .i64 p.k.e, .int .i64 p.id, .int .i64 p.ver]
 have hs1 : (w.alloc (.cells #[.int .i64 p.k.t, .int .i64 p.k.c, .int .i64 p.k.e, .int .i64 p.id, .int .i64 p.ver] 88)).heap.size = w.heap.size + 1 := by simp
 have hR := read_any (w.alloc (.cells #[.int .i64 p.k.t, .int .i64 p.k.c, .int .i64 p.k.e, .int .i64 p.id, .int .i64 p.ver] 88)) F gd d (hd.bel hb1) i
 have HB1 := hid hb1
 have HPB := hid hB
 have HS1 := hid hs1
 have HV := hid hv
 have HP := hid hp
 have HI := hid hi
 clear hd hv hb1 hB hs1 hp hi
 by_cases he : rdE d i = 0
 · rw [he] at hR
   have HE : Hid (prE d v i p = if hOf (rdB d i) = 0 then 51 else opE v p.k (besd p i) (hOf (rdB d i))) := hid (by unfold prE; rw [if_neg (by simp [he])])
   have HO : Hid (prB d v i p = if hOf (rdB d i) = 0 then [] else opB v p.k (besd p i) (hOf (rdB d i))) := hid (by unfold prB; rw [if_neg (by simp [he])])
   clear he
   go_enter Tryz.func68, Tryz.ntmps68
   go_wp2_with fail
   refine hR.mono ?_
   rintro e w2 ⟨A2, n2, c2, rfl, ho2, hn2, hb2⟩
   obtain ⟨_, _, hf2, hc2⟩ := own_form ho2
   injection hf2 with e1 _ e3
   subst e1 e3
   have hH := handle_c A2 n2 c2 (rdB d i) w2 ((Bts.own ho2).wide (Nat.zero_le _) (nl _)) hc2 (own_cap ho2)
   have HB2 := hid (HB1.out.trans (hb2.mono HB1.out.size))
   have HPB2 := hid (HPB.out.below hb2 (by have := HS1.out; omega))
   have HHL := hid (hOf_lt (rdB d i))
   clear hR ho2 hn2 hb2 hc2 HB1 HPB HS1
   generalize hOf (rdB d i) = h at *
   by_cases hz : h = 0
   · subst hz
     rw [show decide (0 < 0) = false from rfl] at hH
     have HE2 : Hid (prE d v i p = 51) := hid (HE.out.trans (if_pos rfl))
     have HO2 : Hid (prB d v i p = []) := hid (HO.out.trans (if_pos rfl))
     clear HE HO
     go_wp2_with fail
     refine hH.mono ?_
     rintro e w3 ⟨rfl, rfl⟩
     clear hH
     go_wp2
     go_ret2
     exact ⟨none, 0, 0, by rw [HE2.out]; rfl, by rw [HO2.out]; exact own_nilrow _ _ _ _, by omega, HB2.out⟩
   · rw [decide_eq_true (Nat.pos_of_ne_zero hz)] at hH
     have HE2 : Hid (prE d v i p = opE v p.k (besd p i) h) := hid (HE.out.trans (if_neg hz))
     have HO2 : Hid (prB d v i p = opB v p.k (besd p i) h) := hid (HO.out.trans (if_neg hz))
     clear HE HO hz
     go_wp2_with fail
     refine hH.mono ?_
     rintro e w3 ⟨rfl, rfl⟩
     clear hH
     go_wp2_with fail
     refine wp_region_held_drew (S := fun wx => wx.cell? ⟨w.heap.size, 0, none⟩ = some (.int .i64 p.k.t) ∧ wx.cell? ⟨w.heap.size, 1, none⟩ = some (.int .i64 p.k.c) ∧ wx.cell? ⟨w.heap.size, 2, none⟩ = some (.int .i64 p.k.e) ∧ wx.cell? ⟨w.heap.size, 3, none⟩ = some (.int .i64 p.id) ∧ wx.cell? ⟨w.heap.size, 4, none⟩ = some (.int .i64 p.ver)) (by kernel_rfl) (pgB_cells (pgB_drew HPB2.out)) (fun HS => ?_)
     have HB2d := hid HB2.out.drew
     have HPBd := hid (pgB_drew HPB2.out)
     clear HB2 HPB2
     have HSZ : Hid (w2.drew.heap.size = w2.heap.size) := hid rfl
     have HVd : Hid (Vlt w2.drew G gv v) := hid (HV.out.bel HB2d.out)
     have HB2 := HB2d
     generalize w2.drew = w4 at *
     refine qT 0 ?v0 ?y0 HS ?r0
     case y0 => refine qI fun wS hSw => ?_; go_simp; try with_reducible rfl
     try simp only [Act.put, zA]
     refine qT 1 ?v1 ?y1 HS ?r1
     case y1 => refine qI fun wS hSw => ?_; go_simp; try with_reducible rfl
     try simp only [Act.put, zA]
     refine qT 2 ?v2 ?y2 HS ?r2
     case y2 => refine qI fun wS hSw => ?_; go_simp; try with_reducible rfl
     try simp only [Act.put, zA]
     refine qT 3 ?v3 ?y3 HS ?r3
     case y3 => refine qI fun wS hSw => ?_; go_simp; try with_reducible rfl
     try simp only [Act.put, zA]
     refine qT 4 ?v4 ?y4 HS ?r4
     case y4 => refine qI fun wS hSw => ?_; go_simp; try with_reducible rfl
     try simp only [Act.put, zA]
     refine qT 6 ?v6 ?y6 HS ?r6
     case y6 => refine qI fun wS hSw => ?_; go_simp; try with_reducible rfl
     try simp only [Act.put, zA]
     refine qR 5 fun K hK => ?_
     go_simp
     refine (beside_c p HP.out i HI.out w4).mono ?_
     rintro e wa ⟨rfl, hba⟩
     have HBA := hid hba
     have HPBa := hid (HPBd.out.below hba HPBd.out.lt)
     clear hba
     refine hK.out _ _ (pgB_cells HPBa.out) (fun HS => ?_)
     clear hK K
     try simp only [Act.put, zA]
     refine qR 7 fun K hK => ?_
     go_simp
     refine (open_any wa G gv v (HVd.out.bel HBA.out) p.k HP.out.1 (besd p i) _ h rfl HHL.out).mono ?_
     rintro e wb ⟨A5, n5, c5, rfl, ho5, hn5, hb5⟩
     have HO5 := hid ho5
     have HN5 := hid hn5
     have HB5 := hid (HB2.out.trans ((HBA.out.trans (hb5.mono HBA.out.size)).mono HB2.out.size))
     have HPBb := hid (HPBa.out.below hb5 HPBa.out.lt)
     clear ho5 hn5 hb5
     refine hK.out _ _ (pgB_cells HPBb.out) (fun HS => ?_)
     clear hK K
     try simp only [Act.put, zA]
     refine qT 8 ?v8 ?y8 HS ?r8
     case y8 => refine qI fun wS hSw => ?_; go_simp; try with_reducible rfl
     try simp only [Act.put, zA]
     refine qT 9 ?v9 ?y9 HS ?r9
     case y9 => refine qI fun wS hSw => ?_; go_simp; try with_reducible rfl
     try simp only [Act.put, zA]
     refine qT 10 ?v10 ?y10 HS ?r10
     case y10 => refine qI fun wS hSw => ?_; go_simp; try with_reducible rfl
     try simp only [Act.put, zA]
     refine qT 11 ?v11 ?y11 HS ?r11
     case y11 => refine qI fun wS hSw => ?_; go_simp; try with_reducible rfl
     try simp only [Act.put, zA]
     refine qD ?_
     go_wp2
     go_ret2
     exact ⟨A5, n5, c5, by rw [HE2.out]; rfl, by rw [HO2.out]; exact own_lower HO5.out (Nat.le_trans HB2.out.size HBA.out.size), HN5.out, HB5.out⟩
 · have HE : Hid (prE d v i p = rdE d i) := hid (by unfold prE; rw [if_pos he])
   have HO : Hid (prB d v i p = []) := hid (by unfold prB; rw [if_pos he])
   have e1 : (rdE d i == 0) = false := by simpa using he
   have e2 : (rdE d i != 0) = true := by simpa using he
   have e3 : decide (rdE d i = 0) = false := by simpa using he
   generalize rdE d i = E at *
   clear he
   go_enter Tryz.func68, Tryz.ntmps68
   go_wp2_with fail
   refine hR.mono ?_
   rintro e w2 ⟨A2, n2, c2, rfl, ho2, hn2, hb2⟩
   have HB2 := hid (HB1.out.trans (hb2.mono HB1.out.size))
   clear hR ho2 hn2 hb2
   go_wp2
   go_ret2
   exact ⟨none, 0, 0, by rw [HE.out]; rfl, by rw [HO.out]; exact own_nilrow _ _ _ _, by omega, HB2.out⟩
theorem pwrite_c (w : World) (F : Nat → Prop) (gd gv : Nat) (d : St) (v : Va) (h : ((DvO gd d).and (VtO gv v)) w F) (p : Pg) (hp : p.wf) (i : Int) (hi : i64ok i) (A : Option Addr) (n c : Nat) (l : List UInt8) (hr : Bts w 0 w.heap.size A n l) (hW : d.W.length ≤ 100000) (hL : v.L.length ≤ 1000000) :
 Calls Tryz.prog 95 #[.pointer (some ⟨gd, 0, none⟩), .pointer (some ⟨gv, 0, none⟩), .int .i64 i, (.agg #[.int .i64 (p).k.t, .int .i64 (p).k.c, .int .i64 (p).k.e, .int .i64 (p).id, .int .i64 (p).ver]), .slice A n c] w fun e w' => e = .returned (.int .i64 (pwE d v i p l.length)) ∧ ((DvO gd (pwD d v i p l.length)).and (VtO gv (pwV d v i p l))).Left w w' F := by
 have hOk : ((DvO gd d).and (VtO gv v)).Ok := (DvO.ok gd d).and (VtO.ok gv v)
 have hb1 : Below w.heap.size w (w.alloc (.cells #[.int .i64 p.k.t, .int .i64 p.k.c, .int .i64 p.k.e, .int .i64 p.id, .int .i64 p.ver] 88)) := (Below.refl _ _).alloc (nl _) _
 have hB : PgB (w.alloc (.cells #[.int .i64 p.k.t, .int .i64 p.k.c, .int .i64 p.k.e, .int .i64 p.id, .int .i64 p.ver] 88)) w.heap.size p := Blk.new w 88 #[.int .i64 p.k.t, .int .i64 p.k.c, .int .i64 p.k.e, .int .i64 p.id, .int .i64 p.ver]
 have hs1 : (w.alloc (.cells #[.int .i64 p.k.t, .int .i64 p.k.c, .int .i64 p.k.e, .int .i64 p.id, .int .i64 p.ver] 88)).heap.size = w.heap.size + 1 := by simp
 obtain ⟨FD, hFD, -⟩ := Foc.one (Q := VtO gv v) Foc.self (VtO.ok gv v) (DvO gd d) w F h
 have hBl := blocks_c (w.alloc (.cells #[.int .i64 p.k.t, .int .i64 p.k.c, .int .i64 p.k.e, .int .i64 p.id, .int .i64 p.ver] 88)) FD gd d (Dev.bel hFD hb1)
 have HOK := hid hOk
 have HB1 := hid hb1
 have HPB := hid hB
 have HS1 := hid hs1
 have HH := hid h
 have HP := hid hp
 have HI := hid hi
 have HR := hid hr
 have HW := hid hW
 have HL := hid hL
 have HLT := hid (fun j (hj : F j) => hOk.lt w F h j hj)
 clear h hb1 hB hs1 hp hi hr hW hL hOk hFD
 by_cases hbad : i < 0 ∨ (d.n : Int) ≤ i
 · have HE : Hid (pwE d v i p l.length = 2) := hid (if_pos hbad)
   have HD : Hid (pwD d v i p l.length = d) := hid (if_pos hbad)
   have HV : Hid (pwV d v i p l = v) := hid (if_pos hbad)
   rw [HE.out, HD.out, HV.out]
   by_cases h0 : i < 0
   · have e1 : decide (i < 0) = true := by simpa using h0
     clear hbad h0 hBl
     go_enter Tryz.func95, Tryz.ntmps95
     go_wp2
     go_ret
     exact ⟨rfl, .bel HOK.out HH.out HB1.out⟩
   · have e1 : decide (i < 0) = false := by simpa using h0
     have h2 : (d.n : Int) ≤ i := by omega
     have e2 : decide ((d.n : Int) ≤ i) = true := by simpa using h2
     generalize (d.n : Int) = N at *
     clear hbad h0 h2
     go_enter Tryz.func95, Tryz.ntmps95
     go_wp2_with fail
     refine hBl.mono ?_
     rintro e w2 ⟨rfl, rfl⟩
     clear hBl
     go_wp2
     go_ret
     exact ⟨rfl, .bel HOK.out HH.out HB1.out⟩
 · have h0 : ¬ i < 0 := fun e => hbad (.inl e)
   have h2 : ¬ (d.n : Int) ≤ i := fun e => hbad (.inr e)
   have e1 : decide (i < 0) = false := by simpa using h0
   have e2 : decide ((d.n : Int) ≤ i) = false := by simpa using h2
   have HV : Hid (pwV d v i p l = seS v p.k (besd p i) l) := hid (if_neg hbad)
   by_cases hse : seE v p.k l.length = 0
   · have HE : Hid (pwE d v i p l.length = wrE d i 8) := hid ((if_neg hbad).trans (if_neg (by simp [hse])))
     have HD : Hid (pwD d v i p l.length = wrS d i (le8 (seH v p.k l.length))) := hid ((if_neg hbad).trans (if_neg (by simp [hse])))
     have HSE := hid hse
     clear hbad h0 h2 hse
     generalize (d.n : Int) = N at *
     go_enter Tryz.func95, Tryz.ntmps95
     go_wp2_with fail
     refine hBl.mono ?_
     rintro e w2 ⟨rfl, rfl⟩
     clear hBl
     go_wp2_with fail
     clear e1 e2
     have HPBd := hid (pgB_drew HPB.out)
     have HB1d := hid HB1.out.drew
     have HHd := hid (HOK.out.keep w _ F HH.out HB1d.out.size (fun j hj => HB1d.out.block j (HLT.out j hj)))
     refine wp_region_held_drew (S := fun wx => wx.cell? ⟨w.heap.size, 0, none⟩ = some (.int .i64 p.k.t) ∧ wx.cell? ⟨w.heap.size, 1, none⟩ = some (.int .i64 p.k.c) ∧ wx.cell? ⟨w.heap.size, 2, none⟩ = some (.int .i64 p.k.e) ∧ wx.cell? ⟨w.heap.size, 3, none⟩ = some (.int .i64 p.id) ∧ wx.cell? ⟨w.heap.size, 4, none⟩ = some (.int .i64 p.ver)) (by kernel_rfl) (pgB_cells HPBd.out) (fun HS => ?_)
     have HSZ : Hid (w.heap.size < (w.alloc (.cells #[.int .i64 p.k.t, .int .i64 p.k.c, .int .i64 p.k.e, .int .i64 p.id, .int .i64 p.ver] 88)).drew.heap.size) := hid HPBd.out.lt
     generalize (w.alloc (.cells #[.int .i64 p.k.t, .int .i64 p.k.c, .int .i64 p.k.e, .int .i64 p.id, .int .i64 p.ver] 88)).drew = w4 at *
     refine qT 0 ?vg0 ?yg0 HS ?rg0
     case yg0 => refine qI fun wS hSw => ?_; go_simp; try with_reducible rfl
     try simp only [Act.put, zA]
     refine qT 1 ?vg1 ?yg1 HS ?rg1
     case yg1 => refine qI fun wS hSw => ?_; go_simp; try with_reducible rfl
     try simp only [Act.put, zA]
     refine qT 2 ?vg2 ?yg2 HS ?rg2
     case yg2 => refine qI fun wS hSw => ?_; go_simp; try with_reducible rfl
     try simp only [Act.put, zA]
     refine qT 3 ?vg3 ?yg3 HS ?rg3
     case yg3 => refine qI fun wS hSw => ?_; go_simp; try with_reducible rfl
     try simp only [Act.put, zA]
     refine qT 4 ?vg4 ?yg4 HS ?rg4
     case yg4 => refine qI fun wS hSw => ?_; go_simp; try with_reducible rfl
     try simp only [Act.put, zA]
     refine qT 6 ?vg6 ?yg6 HS ?rg6
     case yg6 => refine qI fun wS hSw => ?_; go_simp; try with_reducible rfl
     try simp only [Act.put, zA]
     refine qR 5 fun K hK => ?_
     go_simp
     refine (beside_c p HP.out i HI.out w4).mono ?_
     rintro e wa ⟨rfl, hba⟩
     have HBA := hid (HB1d.out.trans (hba.mono HB1d.out.size))
     have HPBa := hid (HPBd.out.below hba HPBd.out.lt)
     have HHa := hid (HOK.out.keep w wa F HH.out HBA.out.size (fun j hj => HBA.out.block j (HLT.out j hj)))
     clear hba HHd HPBd
     refine hK.out _ _ (pgB_cells HPBa.out) (fun HS => ?_)
     clear hK K
     try simp only [Act.put, zA]
     obtain ⟨G, hG, hGs, hGf⟩ := Foc.two (Q := DvO gd d) Foc.self (DvO.ok gd d) (VtO gv v) wa F HHa.out
     have hsl := seal_any wa G gv v hG p.k HP.out.1 (besd p i) A n c l ((HR.out.below HBA.out (nl _)).wide (nl _) HBA.out.size) HL.out
     rw [HSE.out] at hsl
     have HGB : Hid (¬ G w.heap.size) := hid (fun e => Nat.lt_irrefl _ (HLT.out _ (hGs _ e)))
     have HGF := hid hGf
     clear hG hGs hGf
     refine qR 7 fun K hK => ?_
     go_simp
     refine hsl.mono ?_
     rintro e wb ⟨rfl, hlb⟩
     have HLF := hid (Ob.Left.pre HBA.out (HGF.out wb (VtO gv (seS v p.k (besd p i) l)) hlb))
     have HPBb : Hid (PgB wb w.heap.size p) := hid (by obtain ⟨_, -, hk, -⟩ := hlb; exact Blk.keep HPBa.out (hk.block _ HPBa.out.lt HGB.out))
     clear hsl hlb HGF
     refine hK.out _ _ (pgB_cells HPBb.out) (fun HS => ?_)
     clear hK K
     try simp only [Act.put, zA]
     refine qT 8 ?vg8 ?yg8 HS ?rg8
     case yg8 => refine qI fun wS hSw => ?_; go_simp; try with_reducible rfl
     try simp only [Act.put, zA]
     refine qT 9 ?vg9 ?yg9 HS ?rg9
     case yg9 => refine qI fun wS hSw => ?_; go_simp; try with_reducible rfl
     try simp only [Act.put, zA]
     refine qT 10 ?vg10 ?yg10 HS ?rg10
     case yg10 => refine qI fun wS hSw => ?_; go_simp; try with_reducible rfl
     try simp only [Act.put, zA]
     refine qT 11 ?vg11 ?yg11 HS ?rg11
     case yg11 => refine qI fun wS hSw => ?_; go_simp; try with_reducible rfl
     try simp only [Act.put, zA]
     refine qT 12 ?vg12 ?yg12 HS ?rg12
     case yg12 => refine qI fun wS hSw => ?_; go_simp; try with_reducible rfl
     try simp only [Act.put, zA]
     refine qD ?_
     have HHB := hid (seH_lt (v := v) (k := p.k) (n := l.length) HL.out)
     have hob := onblock_c (seH v p.k l.length) HHB.out wb
     go_wp2_with fail
     refine hob.mono ?_
     rintro e wc ⟨Ac, cc, rfl, hoc, hbc⟩
     obtain ⟨F1, q1, k1, s1⟩ := HLF.out
     have q2 := ((DvO.ok gd d).and (VtO.ok gv (seS v p.k (besd p i) l))).keep wb wc F1 q1 hbc.size (fun j hj => hbc.block j (((DvO.ok gd d).and (VtO.ok gv (seS v p.k (besd p i) l))).lt wb F1 q1 j hj))
     obtain ⟨FD2, hFD2, hsub, hfw⟩ := Foc.one (Q := VtO gv (seS v p.k (besd p i) l)) Foc.self (VtO.ok gv _) (DvO gd d) wc F1 q2
     have hl8 : (le8 (seH v p.k l.length)).length = 8 := le_len 8 _
     have hwr := write_any wc FD2 gd d hFD2 i Ac 8 cc (le8 (seH v p.k l.length)) ((Bts.own hoc).wide (Nat.zero_le _) (nl _)) (fun _ u hu e => by
      have h1 := own_ge hoc u hu
      have h2 := ((DvO.ok gd d).and (VtO.ok gv (seS v p.k (besd p i) l))).lt wb F1 q1 u (hsub u e)
      omega) HW.out
     rw [hl8] at hwr
     have HC := hid (fun wd (hx : Left wc wd FD2 gd (wrS d i (le8 (seH v p.k l.length)))) => Ob.Left.next k1 s1 (Ob.Left.pre hbc (hfw wd (DvO gd (wrS d i (le8 (seH v p.k l.length)))) hx)))
     clear hob hoc hbc q1 k1 s1 q2 hFD2 hsub hfw hl8 HLF
     go_wp2_with fail
     refine hwr.mono ?_
     rintro e wd ⟨rfl, hld⟩
     have HF := hid (HC.out wd hld)
     clear hwr hld HC
     go_wp2
     go_ret
     exact ⟨by rw [HE.out]; rfl, by rw [HD.out, HV.out]; exact HF.out⟩
   · have HE : Hid (pwE d v i p l.length = seE v p.k l.length) := hid ((if_neg hbad).trans (if_pos hse))
     have HD : Hid (pwD d v i p l.length = d) := hid ((if_neg hbad).trans (if_pos hse))
     have z1 : (seE v p.k l.length == 0) = false := by simpa using hse
     have z2 : (seE v p.k l.length != 0) = true := by simpa using hse
     have z3 : decide (seE v p.k l.length = 0) = false := by simpa using hse
     clear hbad h0 h2 hse
     obtain ⟨E, hE⟩ : ∃ E : Int, seE v p.k l.length = E := ⟨_, rfl⟩
     rw [hE] at z1 z2 z3
     have HSE := hid hE
     clear hE
     generalize (d.n : Int) = N at *
     go_enter Tryz.func95, Tryz.ntmps95
     go_wp2_with fail
     refine hBl.mono ?_
     rintro e w2 ⟨rfl, rfl⟩
     clear hBl
     go_wp2_with fail
     clear e1 e2
     have HPBd := hid (pgB_drew HPB.out)
     have HB1d := hid HB1.out.drew
     have HHd := hid (HOK.out.keep w _ F HH.out HB1d.out.size (fun j hj => HB1d.out.block j (HLT.out j hj)))
     refine wp_region_held_drew (S := fun wx => wx.cell? ⟨w.heap.size, 0, none⟩ = some (.int .i64 p.k.t) ∧ wx.cell? ⟨w.heap.size, 1, none⟩ = some (.int .i64 p.k.c) ∧ wx.cell? ⟨w.heap.size, 2, none⟩ = some (.int .i64 p.k.e) ∧ wx.cell? ⟨w.heap.size, 3, none⟩ = some (.int .i64 p.id) ∧ wx.cell? ⟨w.heap.size, 4, none⟩ = some (.int .i64 p.ver)) (by kernel_rfl) (pgB_cells HPBd.out) (fun HS => ?_)
     have HSZ : Hid (w.heap.size < (w.alloc (.cells #[.int .i64 p.k.t, .int .i64 p.k.c, .int .i64 p.k.e, .int .i64 p.id, .int .i64 p.ver] 88)).drew.heap.size) := hid HPBd.out.lt
     generalize (w.alloc (.cells #[.int .i64 p.k.t, .int .i64 p.k.c, .int .i64 p.k.e, .int .i64 p.id, .int .i64 p.ver] 88)).drew = w4 at *
     refine qT 0 ?vb0 ?yb0 HS ?rb0
     case yb0 => refine qI fun wS hSw => ?_; go_simp; try with_reducible rfl
     try simp only [Act.put, zA]
     refine qT 1 ?vb1 ?yb1 HS ?rb1
     case yb1 => refine qI fun wS hSw => ?_; go_simp; try with_reducible rfl
     try simp only [Act.put, zA]
     refine qT 2 ?vb2 ?yb2 HS ?rb2
     case yb2 => refine qI fun wS hSw => ?_; go_simp; try with_reducible rfl
     try simp only [Act.put, zA]
     refine qT 3 ?vb3 ?yb3 HS ?rb3
     case yb3 => refine qI fun wS hSw => ?_; go_simp; try with_reducible rfl
     try simp only [Act.put, zA]
     refine qT 4 ?vb4 ?yb4 HS ?rb4
     case yb4 => refine qI fun wS hSw => ?_; go_simp; try with_reducible rfl
     try simp only [Act.put, zA]
     refine qT 6 ?vb6 ?yb6 HS ?rb6
     case yb6 => refine qI fun wS hSw => ?_; go_simp; try with_reducible rfl
     try simp only [Act.put, zA]
     refine qR 5 fun K hK => ?_
     go_simp
     refine (beside_c p HP.out i HI.out w4).mono ?_
     rintro e wa ⟨rfl, hba⟩
     have HBA := hid (HB1d.out.trans (hba.mono HB1d.out.size))
     have HPBa := hid (HPBd.out.below hba HPBd.out.lt)
     have HHa := hid (HOK.out.keep w wa F HH.out HBA.out.size (fun j hj => HBA.out.block j (HLT.out j hj)))
     clear hba HHd HPBd
     refine hK.out _ _ (pgB_cells HPBa.out) (fun HS => ?_)
     clear hK K
     try simp only [Act.put, zA]
     obtain ⟨G, hG, hGs, hGf⟩ := Foc.two (Q := DvO gd d) Foc.self (DvO.ok gd d) (VtO gv v) wa F HHa.out
     have hsl := seal_any wa G gv v hG p.k HP.out.1 (besd p i) A n c l ((HR.out.below HBA.out (nl _)).wide (nl _) HBA.out.size) HL.out
     rw [HSE.out] at hsl
     have HGB : Hid (¬ G w.heap.size) := hid (fun e => Nat.lt_irrefl _ (HLT.out _ (hGs _ e)))
     have HGF := hid hGf
     clear hG hGs hGf
     refine qR 7 fun K hK => ?_
     go_simp
     refine hsl.mono ?_
     rintro e wb ⟨rfl, hlb⟩
     have HLF := hid (Ob.Left.pre HBA.out (HGF.out wb (VtO gv (seS v p.k (besd p i) l)) hlb))
     have HPBb : Hid (PgB wb w.heap.size p) := hid (by obtain ⟨_, -, hk, -⟩ := hlb; exact Blk.keep HPBa.out (hk.block _ HPBa.out.lt HGB.out))
     clear hsl hlb HGF
     refine hK.out _ _ (pgB_cells HPBb.out) (fun HS => ?_)
     clear hK K
     try simp only [Act.put, zA]
     refine qT 8 ?vb8 ?yb8 HS ?rb8
     case yb8 => refine qI fun wS hSw => ?_; go_simp; try with_reducible rfl
     try simp only [Act.put, zA]
     refine qT 9 ?vb9 ?yb9 HS ?rb9
     case yb9 => refine qI fun wS hSw => ?_; go_simp; try with_reducible rfl
     try simp only [Act.put, zA]
     refine qT 10 ?vb10 ?yb10 HS ?rb10
     case yb10 => refine qI fun wS hSw => ?_; go_simp; try with_reducible rfl
     try simp only [Act.put, zA]
     refine qT 11 ?vb11 ?yb11 HS ?rb11
     case yb11 => refine qI fun wS hSw => ?_; go_simp; try with_reducible rfl
     try simp only [Act.put, zA]
     refine qT 12 ?vb12 ?yb12 HS ?rb12
     case yb12 => refine qI fun wS hSw => ?_; go_simp; try with_reducible rfl
     try simp only [Act.put, zA]
     refine qD ?_
     go_wp2
     go_ret
     exact ⟨by rw [HE.out, HSE.out]; rfl, by rw [HD.out, HV.out]; exact HLF.out⟩
end Go.Proofs.YtolaojkcofbkhaaGreat
