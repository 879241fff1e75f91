/- The handle of a block's bytes, and a handle's bytes: the program's own calls. -/
import Derived.Test.YtocmgdhgimpfhaaPgMath
import Derived.Test.YtocmgdhgimpfhaaPkW1
import Derived.LoopN
namespace Go.Proofs.Ytocmgdhgimpfhaa
open Go.RowKit

theorem bs_le8 (h : Nat) : bs (le8 h) = [.int .u8 ((h : Int) % 256), .int .u8 ((h : Int) / 256 % 256), .int .u8 ((h : Int) / 65536 % 256), .int .u8 ((h : Int) / 16777216 % 256), .int .u8 ((h : Int) / 4294967296 % 256), .int .u8 ((h : Int) / 1099511627776 % 256), .int .u8 ((h : Int) / 281474976710656 % 256), .int .u8 ((h : Int) / 72057594037927936 % 256)] := by
  simp [bs, le8, le, Nat.div_div_eq_div_mul]
set_option maxRecDepth 100000 in
set_option maxHeartbeats 4000000 in
theorem onblock_c (h : Nat) (hh : h < 18446744073709551616) (w : World) :
    Calls Try.prog 55 #[.int .u64 (h : Int)] w fun e w' => ∃ A c, e = .returned (.slice A 8 c) ∧ w'.ownsRow w.heap.size 5 1 (.slice A 8 c) 8 (bs (le8 h)) ∧ Below w.heap.size w w' := by
  have HH := hid hh
  have hmk : ∀ wx, (Instr.makeSlice 44 (.int .i64 8) (.int .i64 8)).run Try.prog wx = .ok (.slice (some ⟨wx.heap.size, 0, none⟩) 8 8) (wx.alloc (.cells #[.int .u8 0, .int .u8 0, .int .u8 0, .int .u8 0, .int .u8 0, .int .u8 0, .int .u8 0, .int .u8 0] 5)) := fun _ => by kernel_rfl
  clear hh
  go_enter Try.func55, Try.ntmps55
  go_wp2_with fail
  refine wp_loop_rounds 9 ?_
  iterate 8
    rw [rounds_succ]
    go_wp2_with fail
  rw [rounds_succ]
  go_wp2
  go_ret
  refine ⟨_, _, rfl, ?_, (Below.refl _ _).alloc (Nat.le_refl _) _⟩
  rw [bs_le8]
  exact World.ownsRow_lit w #[_, _, _, _, _, _, _, _] 8 (Nat.le_refl _) (by decide) rfl

theorem hOf16 (b0 b1 b2 b3 b4 b5 b6 b7 b8 b9 b10 b11 b12 b13 b14 b15 : UInt8) :
    hOf [b0, b1, b2, b3, b4, b5, b6, b7, b8, b9, b10, b11, b12, b13, b14, b15] = if b8.toNat = 0 ∧ b9.toNat = 0 ∧ b10.toNat = 0 ∧ b11.toNat = 0 ∧ b12.toNat = 0 ∧ b13.toNat = 0 ∧ b14.toNat = 0 ∧ b15.toNat = 0 then b0.toNat + 256 * (b1.toNat + 256 * (b2.toNat + 256 * (b3.toNat + 256 * (b4.toNat + 256 * (b5.toNat + 256 * (b6.toNat + 256 * b7.toNat)))))) else 0 := by
  have e : ∀ b : UInt8, b.toNat = 0 ↔ b = 0 := fun b => ⟨fun h => UInt8.toNat_inj.1 (by simpa using h), fun h => by rw [h]; rfl⟩
  unfold hOf
  simp only [e]
  simp [List.replicate, lev]
theorem pos_ne0 (y : Nat) : decide (0 < y) = ((y : Int) != 0) := by
  rcases Nat.eq_zero_or_pos y with h | h
  · subst h; rfl
  · rw [decide_eq_true h]
    symm
    simp
    omega
theorem or_at (a x k y : Nat) (M : Int) (hM : M = ((2 ^ k : Nat) : Int)) (hk : 2 ^ k < 18446744073709551616) (hy : y = a + 2 ^ k * x) (ha : a < 2 ^ k) (hx : 2 ^ k * x < 18446744073709551616) : bits .or .u64 (a : Int) ((x : Int) * M) = (y : Int) := by
  have h1 := u64_or_nat a (2 ^ k * x) (by omega) hx
  have h2 := Nat.shiftLeft_add_eq_or_of_lt ha x
  rw [Nat.shiftLeft_eq, Nat.mul_comm] at h2
  rw [hM, show (x : Int) * ((2 ^ k : Nat) : Int) = ((2 ^ k * x : Nat) : Int) by rw [Int.natCast_mul, Int.mul_comm], h1, hy, Nat.or_comm, ← h2, Nat.add_comm]
set_option maxRecDepth 100000 in
set_option maxHeartbeats 4000000 in
/-- handle -/
theorem handle_c (A : Option Addr) (n c : Nat) (l : List UInt8) (w : World) (hr : Bts w 0 w.heap.size A n l) (hc : n ≤ c) (hcm : c ≤ maxLen) :
    Calls Try.prog 59 #[.slice A n c] w fun e w' => e = .returned (.tuple #[.int .u64 (hOf l : Int), .bool (decide (0 < hOf l))]) ∧ w = w' := by
  by_cases hn : n = 16
  · subst hn
    obtain ⟨g, off, rfl, -, -, hcell⟩ := hr.2 (by decide)
    match l, hr.1 with
    | [b0, b1, b2, b3, b4, b5, b6, b7, b8, b9, b10, b11, b12, b13, b14, b15], _ =>
    have c0 : w.cell? ⟨g, off, none⟩ = some (.int .u8 (b0.toNat : Int)) := hcell 0 _ rfl
    have c1 : w.cell? ⟨g, off + 1, none⟩ = some (.int .u8 (b1.toNat : Int)) := hcell 1 _ rfl
    have c2 : w.cell? ⟨g, off + 2, none⟩ = some (.int .u8 (b2.toNat : Int)) := hcell 2 _ rfl
    have c3 : w.cell? ⟨g, off + 3, none⟩ = some (.int .u8 (b3.toNat : Int)) := hcell 3 _ rfl
    have c4 : w.cell? ⟨g, off + 4, none⟩ = some (.int .u8 (b4.toNat : Int)) := hcell 4 _ rfl
    have c5 : w.cell? ⟨g, off + 5, none⟩ = some (.int .u8 (b5.toNat : Int)) := hcell 5 _ rfl
    have c6 : w.cell? ⟨g, off + 6, none⟩ = some (.int .u8 (b6.toNat : Int)) := hcell 6 _ rfl
    have c7 : w.cell? ⟨g, off + 7, none⟩ = some (.int .u8 (b7.toNat : Int)) := hcell 7 _ rfl
    have c8 : w.cell? ⟨g, off + 8, none⟩ = some (.int .u8 (b8.toNat : Int)) := hcell 8 _ rfl
    have c9 : w.cell? ⟨g, off + 9, none⟩ = some (.int .u8 (b9.toNat : Int)) := hcell 9 _ rfl
    have c10 : w.cell? ⟨g, off + 10, none⟩ = some (.int .u8 (b10.toNat : Int)) := hcell 10 _ rfl
    have c11 : w.cell? ⟨g, off + 11, none⟩ = some (.int .u8 (b11.toNat : Int)) := hcell 11 _ rfl
    have c12 : w.cell? ⟨g, off + 12, none⟩ = some (.int .u8 (b12.toNat : Int)) := hcell 12 _ rfl
    have c13 : w.cell? ⟨g, off + 13, none⟩ = some (.int .u8 (b13.toNat : Int)) := hcell 13 _ rfl
    have c14 : w.cell? ⟨g, off + 14, none⟩ = some (.int .u8 (b14.toNat : Int)) := hcell 14 _ rfl
    have c15 : w.cell? ⟨g, off + 15, none⟩ = some (.int .u8 (b15.toNat : Int)) := hcell 15 _ rfl
    have HO := hid (hOf16 b0 b1 b2 b3 b4 b5 b6 b7 b8 b9 b10 b11 b12 b13 b14 b15)
    have hx0 := b0.toNat_lt
    generalize b0.toNat = x0 at *
    have hx1 := b1.toNat_lt
    generalize b1.toNat = x1 at *
    have hx2 := b2.toNat_lt
    generalize b2.toNat = x2 at *
    have hx3 := b3.toNat_lt
    generalize b3.toNat = x3 at *
    have hx4 := b4.toNat_lt
    generalize b4.toNat = x4 at *
    have hx5 := b5.toNat_lt
    generalize b5.toNat = x5 at *
    have hx6 := b6.toNat_lt
    generalize b6.toNat = x6 at *
    have hx7 := b7.toNat_lt
    generalize b7.toNat = x7 at *
    have hx8 := b8.toNat_lt
    generalize b8.toNat = x8 at *
    have hx9 := b9.toNat_lt
    generalize b9.toNat = x9 at *
    have hx10 := b10.toNat_lt
    generalize b10.toNat = x10 at *
    have hx11 := b11.toNat_lt
    generalize b11.toNat = x11 at *
    have hx12 := b12.toNat_lt
    generalize b12.toNat = x12 at *
    have hx13 := b13.toNat_lt
    generalize b13.toNat = x13 at *
    have hx14 := b14.toNat_lt
    generalize b14.toNat = x14 at *
    have hx15 := b15.toNat_lt
    generalize b15.toNat = x15 at *
    generalize hOf [b0, b1, b2, b3, b4, b5, b6, b7, b8, b9, b10, b11, b12, b13, b14, b15] = H at *
    have HX0 := hid hx0
    have HX1 := hid hx1
    have HX2 := hid hx2
    have HX3 := hid hx3
    have HX4 := hid hx4
    have HX5 := hid hx5
    have HX6 := hid hx6
    have HX7 := hid hx7
    have HX8 := hid hx8
    have HX9 := hid hx9
    have HX10 := hid hx10
    have HX11 := hid hx11
    have HX12 := hid hx12
    have HX13 := hid hx13
    have HX14 := hid hx14
    have HX15 := hid hx15
    clear hcell hr hx0 hx1 hx2 hx3 hx4 hx5 hx6 hx7 hx8 hx9 hx10 hx11 hx12 hx13 hx14 hx15
    have hc8 : ¬ c = 8 := by omega
    have hc0 : ¬ c = 0 := by omega
    have hg8 : (8 : Int) ≤ (c : Int) := by omega
    have hg9 : ¬ (c : Int) < 8 := by omega
    have HC := hid hc
    have HCM := hid hcm
    clear hc hcm
    go_enter Try.func59, Try.ntmps59
    go_wp2_with fail
    refine wp_loop_rounds 9 ?_
    rw [rounds_succ]
    by_cases z8 : ¬ x8 = 0
    · have HZ : Hid (H = 0) := hid (HO.out.trans (if_neg fun e => z8 (by have := e; omega)))
      have e1 : ((x8 : Int) == 0) = false := by simpa using z8
      have e2 : decide ((x8 : Int) = 0) = false := by simpa using z8
      have e3 : (x8 == 0) = false := by simpa using z8
      have e4 : decide (x8 = 0) = false := by simpa using z8
      have e5 : ¬ x8 = 0 := z8
      clear z8
      as_aux_lemma =>
      go_wp2
      go_ret2
      exact ⟨by rw [HZ.out]; rfl, rfl⟩
    obtain rfl : x8 = 0 := Classical.byContradiction z8
    clear z8
    go_wp2_with fail
    rw [rounds_succ]
    by_cases z9 : ¬ x9 = 0
    · have HZ : Hid (H = 0) := hid (HO.out.trans (if_neg fun e => z9 (by have := e; omega)))
      have e1 : ((x9 : Int) == 0) = false := by simpa using z9
      have e2 : decide ((x9 : Int) = 0) = false := by simpa using z9
      have e3 : (x9 == 0) = false := by simpa using z9
      have e4 : decide (x9 = 0) = false := by simpa using z9
      have e5 : ¬ x9 = 0 := z9
      clear z9
      as_aux_lemma =>
      go_wp2
      go_ret2
      exact ⟨by rw [HZ.out]; rfl, rfl⟩
    obtain rfl : x9 = 0 := Classical.byContradiction z9
    clear z9
    go_wp2_with fail
    rw [rounds_succ]
    by_cases z10 : ¬ x10 = 0
    · have HZ : Hid (H = 0) := hid (HO.out.trans (if_neg fun e => z10 (by have := e; omega)))
      have e1 : ((x10 : Int) == 0) = false := by simpa using z10
      have e2 : decide ((x10 : Int) = 0) = false := by simpa using z10
      have e3 : (x10 == 0) = false := by simpa using z10
      have e4 : decide (x10 = 0) = false := by simpa using z10
      have e5 : ¬ x10 = 0 := z10
      clear z10
      as_aux_lemma =>
      go_wp2
      go_ret2
      exact ⟨by rw [HZ.out]; rfl, rfl⟩
    obtain rfl : x10 = 0 := Classical.byContradiction z10
    clear z10
    go_wp2_with fail
    rw [rounds_succ]
    by_cases z11 : ¬ x11 = 0
    · have HZ : Hid (H = 0) := hid (HO.out.trans (if_neg fun e => z11 (by have := e; omega)))
      have e1 : ((x11 : Int) == 0) = false := by simpa using z11
      have e2 : decide ((x11 : Int) = 0) = false := by simpa using z11
      have e3 : (x11 == 0) = false := by simpa using z11
      have e4 : decide (x11 = 0) = false := by simpa using z11
      have e5 : ¬ x11 = 0 := z11
      clear z11
      as_aux_lemma =>
      go_wp2
      go_ret2
      exact ⟨by rw [HZ.out]; rfl, rfl⟩
    obtain rfl : x11 = 0 := Classical.byContradiction z11
    clear z11
    go_wp2_with fail
    rw [rounds_succ]
    by_cases z12 : ¬ x12 = 0
    · have HZ : Hid (H = 0) := hid (HO.out.trans (if_neg fun e => z12 (by have := e; omega)))
      have e1 : ((x12 : Int) == 0) = false := by simpa using z12
      have e2 : decide ((x12 : Int) = 0) = false := by simpa using z12
      have e3 : (x12 == 0) = false := by simpa using z12
      have e4 : decide (x12 = 0) = false := by simpa using z12
      have e5 : ¬ x12 = 0 := z12
      clear z12
      as_aux_lemma =>
      go_wp2
      go_ret2
      exact ⟨by rw [HZ.out]; rfl, rfl⟩
    obtain rfl : x12 = 0 := Classical.byContradiction z12
    clear z12
    go_wp2_with fail
    rw [rounds_succ]
    by_cases z13 : ¬ x13 = 0
    · have HZ : Hid (H = 0) := hid (HO.out.trans (if_neg fun e => z13 (by have := e; omega)))
      have e1 : ((x13 : Int) == 0) = false := by simpa using z13
      have e2 : decide ((x13 : Int) = 0) = false := by simpa using z13
      have e3 : (x13 == 0) = false := by simpa using z13
      have e4 : decide (x13 = 0) = false := by simpa using z13
      have e5 : ¬ x13 = 0 := z13
      clear z13
      as_aux_lemma =>
      go_wp2
      go_ret2
      exact ⟨by rw [HZ.out]; rfl, rfl⟩
    obtain rfl : x13 = 0 := Classical.byContradiction z13
    clear z13
    go_wp2_with fail
    rw [rounds_succ]
    by_cases z14 : ¬ x14 = 0
    · have HZ : Hid (H = 0) := hid (HO.out.trans (if_neg fun e => z14 (by have := e; omega)))
      have e1 : ((x14 : Int) == 0) = false := by simpa using z14
      have e2 : decide ((x14 : Int) = 0) = false := by simpa using z14
      have e3 : (x14 == 0) = false := by simpa using z14
      have e4 : decide (x14 = 0) = false := by simpa using z14
      have e5 : ¬ x14 = 0 := z14
      clear z14
      as_aux_lemma =>
      go_wp2
      go_ret2
      exact ⟨by rw [HZ.out]; rfl, rfl⟩
    obtain rfl : x14 = 0 := Classical.byContradiction z14
    clear z14
    go_wp2_with fail
    rw [rounds_succ]
    by_cases z15 : ¬ x15 = 0
    · have HZ : Hid (H = 0) := hid (HO.out.trans (if_neg fun e => z15 (by have := e; omega)))
      have e1 : ((x15 : Int) == 0) = false := by simpa using z15
      have e2 : decide ((x15 : Int) = 0) = false := by simpa using z15
      have e3 : (x15 == 0) = false := by simpa using z15
      have e4 : decide (x15 = 0) = false := by simpa using z15
      have e5 : ¬ x15 = 0 := z15
      clear z15
      as_aux_lemma =>
      go_wp2
      go_ret2
      exact ⟨by rw [HZ.out]; rfl, rfl⟩
    obtain rfl : x15 = 0 := Classical.byContradiction z15
    clear z15
    go_wp2_with fail
    rw [rounds_succ]
    go_wp2_with fail
    have HO2 : Hid (H = x0 + 256 * (x1 + 256 * (x2 + 256 * (x3 + 256 * (x4 + 256 * (x5 + 256 * (x6 + 256 * x7))))))) := hid (HO.out.trans (by simp))
    clear HO
    refine wp_loop_rounds 9 ?_
    have o0 : bits .or .u64 0 (x0 : Int) = (x0 : Int) := by have h1 := HX0.out; have h2 := u64_or_nat 0 x0 (by omega) (by omega); simpa using h2
    have q0 : IntKind.u64.wrap (x0 : Int) = (x0 : Int) := IntWalk.u64_in _ (by have h1 := HX0.out; omega)
    rw [rounds_succ]
    go_wp2_with fail
    clear o0 q0
    rw [rounds_succ]
    obtain ⟨y1, hy1⟩ : ∃ y : Nat, y = x0 + 256 * x1 := ⟨_, rfl⟩
    have HY1 := hid hy1
    have HL1 : Hid (y1 < 65536) := hid (by have h1 := HX0.out; have h2 := HX1.out; omega)
    have o1 : bits .or .u64 (x0 : Int) ((x1 : Int) * 256) = (y1 : Int) := or_at x0 x1 8 y1 256 rfl (by decide) hy1 (by have h1 := HX0.out; omega) (by have h1 := HX1.out; omega)
    have q1 : IntKind.u64.wrap (x1 : Int) = (x1 : Int) := IntWalk.u64_in _ (by have h1 := HX1.out; omega)
    have r1 : IntKind.u64.wrap ((x1 : Int) * 256) = (x1 : Int) * 256 := IntWalk.u64_in _ (by have h1 := HX1.out; omega)
    clear hy1
    go_wp2_with fail
    clear o1 q1 r1
    rw [rounds_succ]
    obtain ⟨y2, hy2⟩ : ∃ y : Nat, y = y1 + 65536 * x2 := ⟨_, rfl⟩
    have HY2 := hid hy2
    have HL2 : Hid (y2 < 16777216) := hid (by have h1 := HL1.out; have h2 := HX2.out; omega)
    have o2 : bits .or .u64 (y1 : Int) ((x2 : Int) * 65536) = (y2 : Int) := or_at y1 x2 16 y2 65536 rfl (by decide) hy2 (by have h1 := HL1.out; omega) (by have h1 := HX2.out; omega)
    have q2 : IntKind.u64.wrap (x2 : Int) = (x2 : Int) := IntWalk.u64_in _ (by have h1 := HX2.out; omega)
    have r2 : IntKind.u64.wrap ((x2 : Int) * 65536) = (x2 : Int) * 65536 := IntWalk.u64_in _ (by have h1 := HX2.out; omega)
    clear hy2
    go_wp2_with fail
    clear o2 q2 r2
    rw [rounds_succ]
    obtain ⟨y3, hy3⟩ : ∃ y : Nat, y = y2 + 16777216 * x3 := ⟨_, rfl⟩
    have HY3 := hid hy3
    have HL3 : Hid (y3 < 4294967296) := hid (by have h1 := HL2.out; have h2 := HX3.out; omega)
    have o3 : bits .or .u64 (y2 : Int) ((x3 : Int) * 16777216) = (y3 : Int) := or_at y2 x3 24 y3 16777216 rfl (by decide) hy3 (by have h1 := HL2.out; omega) (by have h1 := HX3.out; omega)
    have q3 : IntKind.u64.wrap (x3 : Int) = (x3 : Int) := IntWalk.u64_in _ (by have h1 := HX3.out; omega)
    have r3 : IntKind.u64.wrap ((x3 : Int) * 16777216) = (x3 : Int) * 16777216 := IntWalk.u64_in _ (by have h1 := HX3.out; omega)
    clear hy3
    go_wp2_with fail
    clear o3 q3 r3
    rw [rounds_succ]
    obtain ⟨y4, hy4⟩ : ∃ y : Nat, y = y3 + 4294967296 * x4 := ⟨_, rfl⟩
    have HY4 := hid hy4
    have HL4 : Hid (y4 < 1099511627776) := hid (by have h1 := HL3.out; have h2 := HX4.out; omega)
    have o4 : bits .or .u64 (y3 : Int) ((x4 : Int) * 4294967296) = (y4 : Int) := or_at y3 x4 32 y4 4294967296 rfl (by decide) hy4 (by have h1 := HL3.out; omega) (by have h1 := HX4.out; omega)
    have q4 : IntKind.u64.wrap (x4 : Int) = (x4 : Int) := IntWalk.u64_in _ (by have h1 := HX4.out; omega)
    have r4 : IntKind.u64.wrap ((x4 : Int) * 4294967296) = (x4 : Int) * 4294967296 := IntWalk.u64_in _ (by have h1 := HX4.out; omega)
    clear hy4
    go_wp2_with fail
    clear o4 q4 r4
    rw [rounds_succ]
    obtain ⟨y5, hy5⟩ : ∃ y : Nat, y = y4 + 1099511627776 * x5 := ⟨_, rfl⟩
    have HY5 := hid hy5
    have HL5 : Hid (y5 < 281474976710656) := hid (by have h1 := HL4.out; have h2 := HX5.out; omega)
    have o5 : bits .or .u64 (y4 : Int) ((x5 : Int) * 1099511627776) = (y5 : Int) := or_at y4 x5 40 y5 1099511627776 rfl (by decide) hy5 (by have h1 := HL4.out; omega) (by have h1 := HX5.out; omega)
    have q5 : IntKind.u64.wrap (x5 : Int) = (x5 : Int) := IntWalk.u64_in _ (by have h1 := HX5.out; omega)
    have r5 : IntKind.u64.wrap ((x5 : Int) * 1099511627776) = (x5 : Int) * 1099511627776 := IntWalk.u64_in _ (by have h1 := HX5.out; omega)
    clear hy5
    go_wp2_with fail
    clear o5 q5 r5
    rw [rounds_succ]
    obtain ⟨y6, hy6⟩ : ∃ y : Nat, y = y5 + 281474976710656 * x6 := ⟨_, rfl⟩
    have HY6 := hid hy6
    have HL6 : Hid (y6 < 72057594037927936) := hid (by have h1 := HL5.out; have h2 := HX6.out; omega)
    have o6 : bits .or .u64 (y5 : Int) ((x6 : Int) * 281474976710656) = (y6 : Int) := or_at y5 x6 48 y6 281474976710656 rfl (by decide) hy6 (by have h1 := HL5.out; omega) (by have h1 := HX6.out; omega)
    have q6 : IntKind.u64.wrap (x6 : Int) = (x6 : Int) := IntWalk.u64_in _ (by have h1 := HX6.out; omega)
    have r6 : IntKind.u64.wrap ((x6 : Int) * 281474976710656) = (x6 : Int) * 281474976710656 := IntWalk.u64_in _ (by have h1 := HX6.out; omega)
    clear hy6
    go_wp2_with fail
    clear o6 q6 r6
    rw [rounds_succ]
    obtain ⟨y7, hy7⟩ : ∃ y : Nat, y = y6 + 72057594037927936 * x7 := ⟨_, rfl⟩
    have HY7 := hid hy7
    have HL7 : Hid (y7 < 18446744073709551616) := hid (by have h1 := HL6.out; have h2 := HX7.out; omega)
    have o7 : bits .or .u64 (y6 : Int) ((x7 : Int) * 72057594037927936) = (y7 : Int) := or_at y6 x7 56 y7 72057594037927936 rfl (by decide) hy7 (by have h1 := HL6.out; omega) (by have h1 := HX7.out; omega)
    have q7 : IntKind.u64.wrap (x7 : Int) = (x7 : Int) := IntWalk.u64_in _ (by have h1 := HX7.out; omega)
    have r7 : IntKind.u64.wrap ((x7 : Int) * 72057594037927936) = (x7 : Int) * 72057594037927936 := IntWalk.u64_in _ (by have h1 := HX7.out; omega)
    clear hy7
    go_wp2_with fail
    clear o7 q7 r7
    obtain ⟨K, hK⟩ : ∃ K : Nat, K = H := ⟨_, rfl⟩
    have HK : Hid (H = y7) := hid (HO2.out.trans (by have h1 := HY1.out; have h2 := HY2.out; have h3 := HY3.out; have h4 := HY4.out; have h5 := HY5.out; have h6 := HY6.out; have h7 := HY7.out; omega))
    clear hK
    rw [rounds_succ]
    go_wp2
    go_ret2
    exact ⟨by rw [HK.out, pos_ne0]; rfl, rfl⟩
  · have HL := hid hr.len
    have HE : Hid (hOf l = 0) := hid (hOf_len (by rw [hr.len]; exact hn))
    have e1 : ((n : Int) == 16) = false := by simp; omega
    have e2 : decide ((n : Int) = 16) = false := by simp; omega
    have e3 : (n == 16) = false := by simpa using hn
    have e4 : decide (n = 16) = false := by simpa using hn
    have e5 : ¬ n = 16 := hn
    clear hr hc hcm hn
    go_enter Try.func59, Try.ntmps59
    go_wp2
    go_ret2
    exact ⟨by rw [HE.out]; rfl, rfl⟩
end Go.Proofs.Ytocmgdhgimpfhaa
