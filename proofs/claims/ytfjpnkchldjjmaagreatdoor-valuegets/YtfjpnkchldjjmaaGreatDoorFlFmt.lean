/- What Go's library writes of a number in base 16 (strconv.FormatUint), walked. -/
import Derived.Test.YtfjpnkchldjjmaaGreatDoorFlLw
import Derived.Test.YtfjpnkchldjjmaaGreatDoorFlHex
import Derived.Test.YtfjpnkchldjjmaaGreatDoorFrame
namespace Go.Proofs.YtfjpnkchldjjmaaGreatDoor
open Go.RowKit

theorem tz16 (w : World) (h : Lw w) : Calls Tryz.prog 122 #[.int .u64 16] w fun e w' => e = .returned (.int .i64 4) ∧ w' = w := by
  have h1 := Any7.bits_TrailingZeros Tryz.laysNm7_27 16 (by omega) w (fun _ => h.2.1)
  have h2 : (Lib.ctz 64 16 : Int) = 4 := by decide
  rw [h2] at h1
  exact h1

theorem pow16 (w : World) : Calls Tryz.prog 121 #[.int .i64 16] w fun e w' => e = .returned (.bool true) ∧ w = w' := by
  have b1 : bits .and .i64 16 15 = 0 := by decide
  go_enter Tryz.func121, Tryz.ntmps121
  go_wp2
  go_ret
  exact ⟨rfl, rfl⟩

/-- The digits that the library takes. -/
def digs : ByteArray := ⟨[48, 49, 50, 51, 52, 53, 54, 55, 56, 57, 97, 98, 99, 100, 101, 102, 103, 104, 105, 106, 107, 108, 109, 110, 111, 112, 113, 114, 115, 116, 117, 118, 119, 120, 121, 122].toArray⟩
theorem digs_at : ∀ d : Fin 16, digs.data[d.val]'(by have h : digs.data.size = 36 := rfl; omega) = hexd d.val := by decide
theorem digs_run (d : Nat) (hd : d < 16) (w : World) : (Instr.index 9 (.string ⟨[48, 49, 50, 51, 52, 53, 54, 55, 56, 57, 97, 98, 99, 100, 101, 102, 103, 104, 105, 106, 107, 108, 109, 110, 111, 112, 113, 114, 115, 116, 117, 118, 119, 120, 121, 122].toArray⟩) (.int .u64 (d : Int))).run Tryz.prog w = .ok (.int .u8 ((hexd d).toNat : Int)) w := by
  have key := run_index_string (P := Tryz.prog) w 9 digs .u64 d Tryz.underlying9
  have hs : ByteArray.size digs = 36 := rfl
  rw [dif_pos (show 0 ≤ (d : Int) ∧ (d : Int) < ByteArray.size digs by rw [hs]; omega)] at key
  refine key.trans ?_
  have h := digs_at ⟨d, hd⟩
  rw [← h]
  rfl
theorem drop_set_ {α : Type} (cs : Array α) (j : Nat) (v : α) (h : j < cs.size) : (cs.setIfInBounds j v).toList.drop j = v :: cs.toList.drop (j + 1) := by
  rw [Array.toList_setIfInBounds, List.drop_eq_getElem_cons (by simpa using h), List.getElem_set_self, List.drop_set_of_lt (by omega)]
theorem and15 (q : Nat) (h : q < 18446744073709551616) : bits .and .u64 (q : Int) 15 = ((q % 16 : Nat) : Int) := by
  have h1 := u64_and_nat q 15 h (by omega)
  have h2 : q &&& 15 = q % 16 := Nat.and_two_pow_sub_one_eq_mod q 4
  rw [h2] at h1
  simpa using h1

set_option maxRecDepth 100000 in
theorem formatBits_c (u : Nat) (hu : u < 18446744073709551616) (w : World) (hw : Lw w) :
    Calls Tryz.prog 110 #[.slice none 0 0, .int .u64 (u : Int), .int .i64 16, .bool false, .bool false] w fun e w' => e = .returned (.tuple #[.slice none 0 0, .string (str (hexs u))]) ∧ Below w.heap.size w w' := by
  have HW := hid hw
  clear hw
  go_enter Tryz.func110, Tryz.ntmps110
  go_wp2_with fail
  refine (pow16 _).mono ?_
  rintro e w' ⟨rfl, rfl⟩
  go_wp2_with fail
  refine (tz16 _ (HW.out.below ((Below.refl _ _).alloc (Nat.le_refl _) _))).mono ?_
  rintro e w' ⟨rfl, rfl⟩
  go_wp2_with fail
  go_loopw [1, 13] (fun uv iv wr => ∃ (q i : Nat) (cs : Array Value) (l : List UInt8), uv = .int .u64 (q : Int) ∧ iv = .int .i64 (i : Int) ∧ Blk wr w.heap.size 144 cs ∧ Below w.heap.size w wr ∧ Hid (q < 18446744073709551616 ∧ i + l.length = 65 ∧ cs.size = 65 ∧ cs.toList.drop i = bs l ∧ hexs q ++ l = hexs u)) (fun uv _ _ => (intOf uv).toNat)
  case atStart => exact ⟨u, 65, _, [], rfl, rfl, Blk.new _ _ _, (Below.refl _ _).alloc (Nat.le_refl _) _, hid ⟨hu, rfl, by rfl, by rfl, by simp⟩⟩
  case round =>
    obtain ⟨q, i, cs, l, rfl, rfl, hblk, hbel, hk⟩ := hrel
    obtain ⟨hq, hil, hcs, hdr, hh⟩ := hk.out
    have hll : l.length + (hexs q).length ≤ 16 := by
      have h1 := hexs_len 15 u hu
      rw [← hh] at h1
      simp at h1
      omega
    have hqp := hexs_pos q
    obtain ⟨j, hj⟩ : ∃ j, i = j + 1 := ⟨i - 1, by omega⟩
    have w1 : wrap64 ((i : Int) - 1) = (j : Int) := by unfold wrap64; omega
    have hj65 : (j : Int) < 65 := by omega
    have hfz : ∀ x, wr.frozen? ⟨w.heap.size, x, none⟩ = false := fun x => hblk.frozen x
    have hjs : j < cs.size := by omega
    obtain ⟨old, hold⟩ : ∃ old, cs[j]? = some old := ⟨_, Array.getElem?_eq_getElem hjs⟩
    have hcell : wr.cell? ⟨w.heap.size, j, none⟩ = some old := by rw [hblk.cell]; exact hold
    by_cases hlt : q < 16
    · have d1 : decide ((16 : Int) ≤ (q : Int)) = false := by simp; omega
      have hidx := digs_run q hlt
      have hal : Tryz.prog.arrayLen 144 = 65 := by simp [Program.arrayLen, Tryz.underlying144]
      have hbl : Bts (wr.setCell ⟨w.heap.size, j, none⟩ (.int .u8 ((hexd q).toNat : Int))) w.heap.size (w.heap.size + 1) (some ⟨w.heap.size, j, none⟩) (65 - j) (hexs u) := by
        have hb2 := hblk.store j (.int .u8 ((hexd q).toNat : Int))
        have hd2 := drop_set_ cs j (.int .u8 ((hexd q).toNat : Int)) hjs
        rw [← hj, hdr] at hd2
        have hd3 : (cs.setIfInBounds j (.int .u8 ((hexd q).toNat : Int))).toList.drop j = bs (hexs u) := by
          rw [hd2, ← hh, hexs_small hlt]; rfl
        have hlen : (hexs u).length = 65 - j := by rw [← hh, hexs_small hlt]; simp; omega
        refine ⟨hlen, fun _ => ⟨_, _, rfl, Nat.le_refl _, by omega, fun i v hv => ?_⟩⟩
        rw [hb2.cell]
        rw [← hd3] at hv
        rw [List.getElem?_drop, Array.getElem?_toList] at hv
        exact hv
      have hcv : (convert 22 9 (.slice (some ⟨w.heap.size, j, none⟩) (65 - j) (65 - j))).run Tryz.prog (wr.setCell ⟨w.heap.size, j, none⟩ (.int .u8 ((hexd q).toNat : Int))) = .ok (.string (str (hexs u))) (wr.setCell ⟨w.heap.size, j, none⟩ (.int .u8 ((hexd q).toNat : Int))) := run_str 22 9 5 Tryz.underlying22 Tryz.underlying5 Tryz.underlying9 hbl
      have hsl : ∀ W, (Instr.sliceAt 144 (.pointer (some ⟨w.heap.size, 0, none⟩)) (some (.int .i64 (j : Int))) none none).run Tryz.prog W = .ok (.slice (some ⟨w.heap.size, j, none⟩) (65 - j) (65 - j)) W := fun W => by
        rw [run_sliceAt_array_l W 144 ⟨w.heap.size, 0, none⟩ (by simp [Program.arrayLen, Program.elem, Tryz.underlying144]) .i64 (j : Int) (by omega) (by rw [hal]; omega)]
        go_simp
        omega
      clear hil hcs hdr hh hj hll hqp hk hold hjs hlt hbl
      go_wp2_with fail
      go_ret2
      exact ⟨rfl, hbel.setCell (Nat.le_refl _) _⟩
    · have d1 : decide ((16 : Int) ≤ (q : Int)) = true := by simp; omega
      obtain ⟨d, hd⟩ : ∃ d, d = q % 16 := ⟨_, rfl⟩
      have b1 : bits .and .u64 (q : Int) 15 = (d : Int) := by rw [hd]; exact and15 q hq
      have hd16 : d < 16 := by omega
      have hidx := digs_run d hd16
      have K := hid (And.intro hil (And.intro hcs (And.intro hdr (And.intro hh (And.intro hd (And.intro hj hll))))))
      clear hil hcs hdr hh hd hj hll hqp hk hold hjs
      go_wp2_with fail
      rw [w1]
      obtain ⟨hil, hcs, hdr, hh, hd, hj, hll⟩ := K.out
      refine ⟨⟨q / 16, j, _, hexd d :: l, by rw [Int.natCast_ediv]; rfl, rfl, hblk.store _ _, hbel.setCell (Nat.le_refl _) _, hid ⟨by omega, by simp; omega, by simp; omega, ?_, ?_⟩⟩, by simp [intOf]; omega⟩
      · rw [drop_set_ _ _ _ (by omega), ← hj, hdr]; rfl
      · rw [← hh, hexs_big (n := q) (by omega), hd]; simp

theorem formatUint_c (u : Nat) (hu : u < 18446744073709551616) (w : World) (hw : Lw w) :
    Calls Tryz.prog 78 #[.int .u64 (u : Int), .int .i64 16] w fun e w' => e = .returned (.string (str (hexs u))) ∧ Below w.heap.size w w' := by
  have HC := hid (formatBits_c u hu w hw)
  clear hw
  go_enter Tryz.func78, Tryz.ntmps78
  go_wp2_with (first | (go_at_call 110; refine HC.out.mono ?_; rintro e w' ⟨rfl, hb⟩) | go_in)
  go_ret
  exact ⟨rfl, hb⟩
end Go.Proofs.YtfjpnkchldjjmaaGreatDoor
