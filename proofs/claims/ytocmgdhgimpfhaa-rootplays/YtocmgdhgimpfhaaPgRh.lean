/- The handle of a block's bytes: the document's own call. -/
import Derived.Test.YtocmgdhgimpfhaaPgHa
import Derived.LoopN
namespace Go.Proofs.Ytocmgdhgimpfhaa
open Go.RowKit

theorem u64w {a : Int} (h : 0 ≤ a) (h2 : a < 18446744073709551616) : IntKind.u64.wrap a = a := IntWalk.u64_in _ (by omega)
set_option maxRecDepth 100000 in
set_option maxHeartbeats 4000000 in
theorem rhandle_c (l : List UInt8) (w : World) (hll : l.length ≤ 1000000) :
    Calls Try.prog 61 #[.string (str l)] w fun e w' => e = .returned (.tuple #[.int .u64 (hOf l : Int), .bool (decide (0 < hOf l))]) ∧ w = w' := by
  by_cases hn : l.length = 16
  · match l, hn with
    | [b0, b1, b2, b3, b4, b5, b6, b7, b8, b9, b10, b11, b12, b13, b14, b15], _ =>
    have HO := hid (hOf16 b0 b1 b2 b3 b4 b5 b6 b7 b8 b9 b10 b11 b12 b13 b14 b15)
    have hsl : ∀ wx, (Instr.slice 9 (.string (str [b0, b1, b2, b3, b4, b5, b6, b7, b8, b9, b10, b11, b12, b13, b14, b15])) (some (.int .i64 8)) none none).run Try.prog wx = .ok (.string (str [b8, b9, b10, b11, b12, b13, b14, b15])) wx := fun _ => by kernel_rfl
    have hi0 : ∀ wx, (Instr.index 9 (.string (str [b0, b1, b2, b3, b4, b5, b6, b7, b8, b9, b10, b11, b12, b13, b14, b15])) (.int .i64 0)).run Try.prog wx = .ok (.int .u8 (b0.toNat : Int)) wx := fun _ => by kernel_rfl
    have hi1 : ∀ wx, (Instr.index 9 (.string (str [b0, b1, b2, b3, b4, b5, b6, b7, b8, b9, b10, b11, b12, b13, b14, b15])) (.int .i64 1)).run Try.prog wx = .ok (.int .u8 (b1.toNat : Int)) wx := fun _ => by kernel_rfl
    have hi2 : ∀ wx, (Instr.index 9 (.string (str [b0, b1, b2, b3, b4, b5, b6, b7, b8, b9, b10, b11, b12, b13, b14, b15])) (.int .i64 2)).run Try.prog wx = .ok (.int .u8 (b2.toNat : Int)) wx := fun _ => by kernel_rfl
    have hi3 : ∀ wx, (Instr.index 9 (.string (str [b0, b1, b2, b3, b4, b5, b6, b7, b8, b9, b10, b11, b12, b13, b14, b15])) (.int .i64 3)).run Try.prog wx = .ok (.int .u8 (b3.toNat : Int)) wx := fun _ => by kernel_rfl
    have hi4 : ∀ wx, (Instr.index 9 (.string (str [b0, b1, b2, b3, b4, b5, b6, b7, b8, b9, b10, b11, b12, b13, b14, b15])) (.int .i64 4)).run Try.prog wx = .ok (.int .u8 (b4.toNat : Int)) wx := fun _ => by kernel_rfl
    have hi5 : ∀ wx, (Instr.index 9 (.string (str [b0, b1, b2, b3, b4, b5, b6, b7, b8, b9, b10, b11, b12, b13, b14, b15])) (.int .i64 5)).run Try.prog wx = .ok (.int .u8 (b5.toNat : Int)) wx := fun _ => by kernel_rfl
    have hi6 : ∀ wx, (Instr.index 9 (.string (str [b0, b1, b2, b3, b4, b5, b6, b7, b8, b9, b10, b11, b12, b13, b14, b15])) (.int .i64 6)).run Try.prog wx = .ok (.int .u8 (b6.toNat : Int)) wx := fun _ => by kernel_rfl
    have hi7 : ∀ wx, (Instr.index 9 (.string (str [b0, b1, b2, b3, b4, b5, b6, b7, b8, b9, b10, b11, b12, b13, b14, b15])) (.int .i64 7)).run Try.prog wx = .ok (.int .u8 (b7.toNat : Int)) wx := fun _ => by kernel_rfl
    have hsz : (str [b0, b1, b2, b3, b4, b5, b6, b7, b8, b9, b10, b11, b12, b13, b14, b15]).size = 16 := rfl
    generalize str [b0, b1, b2, b3, b4, b5, b6, b7, b8, b9, b10, b11, b12, b13, b14, b15] = S at *
    have HT : Hid ((str [b8, b9, b10, b11, b12, b13, b14, b15]).toList == [0, 0, 0, 0, 0, 0, 0, 0] ↔ (b8.toNat = 0 ∧ b9.toNat = 0 ∧ b10.toNat = 0 ∧ b11.toNat = 0 ∧ b12.toNat = 0 ∧ b13.toNat = 0 ∧ b14.toNat = 0 ∧ b15.toNat = 0)) := hid (by
      have e : ∀ b : UInt8, b.toNat = 0 ↔ b = 0 := fun b => ⟨fun h => UInt8.toNat_inj.1 (by simpa using h), fun h => by rw [h]; rfl⟩
      rw [str_list]
      simp only [e]
      simp)
    generalize str [b8, b9, b10, b11, b12, b13, b14, b15] = T at *
    have hx0 : b0.toNat < 256 := b0.toNat_lt
    have hx1 : b1.toNat < 256 := b1.toNat_lt
    have hx2 : b2.toNat < 256 := b2.toNat_lt
    have hx3 : b3.toNat < 256 := b3.toNat_lt
    have hx4 : b4.toNat < 256 := b4.toNat_lt
    have hx5 : b5.toNat < 256 := b5.toNat_lt
    have hx6 : b6.toNat < 256 := b6.toNat_lt
    have hx7 : b7.toNat < 256 := b7.toNat_lt
    generalize b0.toNat = x0 at *
    generalize b1.toNat = x1 at *
    generalize b2.toNat = x2 at *
    generalize b3.toNat = x3 at *
    generalize b4.toNat = x4 at *
    generalize b5.toNat = x5 at *
    generalize b6.toNat = x6 at *
    generalize b7.toNat = x7 at *
    generalize b8.toNat = x8 at *
    generalize b9.toNat = x9 at *
    generalize b10.toNat = x10 at *
    generalize b11.toNat = x11 at *
    generalize b12.toNat = x12 at *
    generalize b13.toNat = x13 at *
    generalize b14.toNat = x14 at *
    generalize b15.toNat = x15 at *
    generalize hOf [b0, b1, b2, b3, b4, b5, b6, b7, b8, b9, b10, b11, b12, b13, b14, b15] = H at *
    have HX0 := hid hx0
    have HX1 := hid hx1
    have HX2 := hid hx2
    have HX3 := hid hx3
    have HX4 := hid hx4
    have HX5 := hid hx5
    have HX6 := hid hx6
    have HX7 := hid hx7
    clear hx0 hx1 hx2 hx3 hx4 hx5 hx6 hx7
    by_cases hz : T.toList == [0, 0, 0, 0, 0, 0, 0, 0]
    · have HO2 : Hid (H = x0 + 256 * (x1 + 256 * (x2 + 256 * (x3 + 256 * (x4 + 256 * (x5 + 256 * (x6 + 256 * x7))))))) := hid (HO.out.trans (if_pos (HT.out.1 hz)))
      clear HO HT
      go_enter Try.func61, Try.ntmps61
      go_wp2_with fail
      clear hz
      refine wp_loop_rounds 9 ?_
      rw [rounds_succ]
      obtain ⟨y7, hy7⟩ : ∃ y : Nat, y = x7 := ⟨_, rfl⟩
      have e1 : (x7 : Int) = (y7 : Int) := by omega
      have e2 : IntKind.u64.wrap (y7 : Int) = (y7 : Int) := u64w (by omega) (by have h1 := HX7.out; omega)
      have HB7 : Hid (y7 < 256) := hid (by have h1 := HX7.out; omega)
      have HY7 := hid hy7
      clear hy7
      go_wp2_with fail
      clear e1 e2
      rw [rounds_succ]
      obtain ⟨y6, hy6⟩ : ∃ y : Nat, y = x6 + 256 * y7 := ⟨_, rfl⟩
      have HB6 : Hid (y6 < 65536) := hid (by have h1 := HX6.out; have h2 := HB7.out; omega)
      have e1 : IntKind.u64.wrap (256 * (y7 : Int)) = 256 * (y7 : Int) := u64w (by omega) (by have h2 := HB7.out; omega)
      have e2 : IntKind.u64.wrap (x6 : Int) = (x6 : Int) := u64w (by omega) (by have h1 := HX6.out; omega)
      have e3 : 256 * (y7 : Int) + (x6 : Int) = (y6 : Int) := by omega
      have e4 : IntKind.u64.wrap (y6 : Int) = (y6 : Int) := u64w (by omega) (by have h2 := HB6.out; omega)
      have HY6 := hid hy6
      clear hy6
      go_wp2_with fail
      clear e1 e2 e3 e4
      rw [rounds_succ]
      obtain ⟨y5, hy5⟩ : ∃ y : Nat, y = x5 + 256 * y6 := ⟨_, rfl⟩
      have HB5 : Hid (y5 < 16777216) := hid (by have h1 := HX5.out; have h2 := HB6.out; omega)
      have e1 : IntKind.u64.wrap (256 * (y6 : Int)) = 256 * (y6 : Int) := u64w (by omega) (by have h2 := HB6.out; omega)
      have e2 : IntKind.u64.wrap (x5 : Int) = (x5 : Int) := u64w (by omega) (by have h1 := HX5.out; omega)
      have e3 : 256 * (y6 : Int) + (x5 : Int) = (y5 : Int) := by omega
      have e4 : IntKind.u64.wrap (y5 : Int) = (y5 : Int) := u64w (by omega) (by have h2 := HB5.out; omega)
      have HY5 := hid hy5
      clear hy5
      go_wp2_with fail
      clear e1 e2 e3 e4
      rw [rounds_succ]
      obtain ⟨y4, hy4⟩ : ∃ y : Nat, y = x4 + 256 * y5 := ⟨_, rfl⟩
      have HB4 : Hid (y4 < 4294967296) := hid (by have h1 := HX4.out; have h2 := HB5.out; omega)
      have e1 : IntKind.u64.wrap (256 * (y5 : Int)) = 256 * (y5 : Int) := u64w (by omega) (by have h2 := HB5.out; omega)
      have e2 : IntKind.u64.wrap (x4 : Int) = (x4 : Int) := u64w (by omega) (by have h1 := HX4.out; omega)
      have e3 : 256 * (y5 : Int) + (x4 : Int) = (y4 : Int) := by omega
      have e4 : IntKind.u64.wrap (y4 : Int) = (y4 : Int) := u64w (by omega) (by have h2 := HB4.out; omega)
      have HY4 := hid hy4
      clear hy4
      go_wp2_with fail
      clear e1 e2 e3 e4
      rw [rounds_succ]
      obtain ⟨y3, hy3⟩ : ∃ y : Nat, y = x3 + 256 * y4 := ⟨_, rfl⟩
      have HB3 : Hid (y3 < 1099511627776) := hid (by have h1 := HX3.out; have h2 := HB4.out; omega)
      have e1 : IntKind.u64.wrap (256 * (y4 : Int)) = 256 * (y4 : Int) := u64w (by omega) (by have h2 := HB4.out; omega)
      have e2 : IntKind.u64.wrap (x3 : Int) = (x3 : Int) := u64w (by omega) (by have h1 := HX3.out; omega)
      have e3 : 256 * (y4 : Int) + (x3 : Int) = (y3 : Int) := by omega
      have e4 : IntKind.u64.wrap (y3 : Int) = (y3 : Int) := u64w (by omega) (by have h2 := HB3.out; omega)
      have HY3 := hid hy3
      clear hy3
      go_wp2_with fail
      clear e1 e2 e3 e4
      rw [rounds_succ]
      obtain ⟨y2, hy2⟩ : ∃ y : Nat, y = x2 + 256 * y3 := ⟨_, rfl⟩
      have HB2 : Hid (y2 < 281474976710656) := hid (by have h1 := HX2.out; have h2 := HB3.out; omega)
      have e1 : IntKind.u64.wrap (256 * (y3 : Int)) = 256 * (y3 : Int) := u64w (by omega) (by have h2 := HB3.out; omega)
      have e2 : IntKind.u64.wrap (x2 : Int) = (x2 : Int) := u64w (by omega) (by have h1 := HX2.out; omega)
      have e3 : 256 * (y3 : Int) + (x2 : Int) = (y2 : Int) := by omega
      have e4 : IntKind.u64.wrap (y2 : Int) = (y2 : Int) := u64w (by omega) (by have h2 := HB2.out; omega)
      have HY2 := hid hy2
      clear hy2
      go_wp2_with fail
      clear e1 e2 e3 e4
      rw [rounds_succ]
      obtain ⟨y1, hy1⟩ : ∃ y : Nat, y = x1 + 256 * y2 := ⟨_, rfl⟩
      have HB1 : Hid (y1 < 72057594037927936) := hid (by have h1 := HX1.out; have h2 := HB2.out; omega)
      have e1 : IntKind.u64.wrap (256 * (y2 : Int)) = 256 * (y2 : Int) := u64w (by omega) (by have h2 := HB2.out; omega)
      have e2 : IntKind.u64.wrap (x1 : Int) = (x1 : Int) := u64w (by omega) (by have h1 := HX1.out; omega)
      have e3 : 256 * (y2 : Int) + (x1 : Int) = (y1 : Int) := by omega
      have e4 : IntKind.u64.wrap (y1 : Int) = (y1 : Int) := u64w (by omega) (by have h2 := HB1.out; omega)
      have HY1 := hid hy1
      clear hy1
      go_wp2_with fail
      clear e1 e2 e3 e4
      rw [rounds_succ]
      obtain ⟨y0, hy0⟩ : ∃ y : Nat, y = x0 + 256 * y1 := ⟨_, rfl⟩
      have HB0 : Hid (y0 < 18446744073709551616) := hid (by have h1 := HX0.out; have h2 := HB1.out; omega)
      have e1 : IntKind.u64.wrap (256 * (y1 : Int)) = 256 * (y1 : Int) := u64w (by omega) (by have h2 := HB1.out; omega)
      have e2 : IntKind.u64.wrap (x0 : Int) = (x0 : Int) := u64w (by omega) (by have h1 := HX0.out; omega)
      have e3 : 256 * (y1 : Int) + (x0 : Int) = (y0 : Int) := by omega
      have e4 : IntKind.u64.wrap (y0 : Int) = (y0 : Int) := u64w (by omega) (by have h2 := HB0.out; omega)
      have HY0 := hid hy0
      clear hy0
      go_wp2_with fail
      clear e1 e2 e3 e4
      have HK : Hid (H = y0) := hid (HO2.out.trans (by have h0 := HY0.out; have h1 := HY1.out; have h2 := HY2.out; have h3 := HY3.out; have h4 := HY4.out; have h5 := HY5.out; have h6 := HY6.out; have h7 := HY7.out; omega))
      rw [rounds_succ]
      go_wp2
      go_ret2
      exact ⟨by rw [HK.out]; first | rfl | (simp; done), rfl⟩
    · have HZ : Hid (H = 0) := hid (HO.out.trans (if_neg fun e => hz (HT.out.2 e)))
      have hz2 : (T.toList == [0, 0, 0, 0, 0, 0, 0, 0]) = false := by simpa using hz
      clear HO HT hz
      go_enter Try.func61, Try.ntmps61
      go_wp2
      go_ret2
      exact ⟨by rw [HZ.out]; rfl, rfl⟩
  · have HE : Hid (hOf l = 0) := hid (hOf_len hn)
    have hs : (str l).size = l.length := str_size l
    generalize str l = S at *
    generalize l.length = n at *
    have e1 : ((n : Int) == 16) = false := by simp; omega
    have e2 : decide ((n : Int) = 16) = false := by simp; omega
    have e3 : (n == 16) = false := by simpa using hn
    have e4 : decide (n = 16) = false := by simpa using hn
    have e5 : ¬ n = 16 := hn
    clear hn hll
    go_enter Try.func61, Try.ntmps61
    go_wp2
    go_ret2
    exact ⟨by rw [HE.out]; rfl, rfl⟩
end Go.Proofs.Ytocmgdhgimpfhaa
