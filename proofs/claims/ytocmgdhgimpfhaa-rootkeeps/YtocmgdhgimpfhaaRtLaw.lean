/- What the walks of roots' laws share: a text's bytes as a row of its own, small remainders. -/
import Derived.Test.YtocmgdhgimpfhaaRtFirst
import Derived.Test.YtocmgdhgimpfhaaFrame
import Derived.Lib.ConvBytes
import Derived.Deep.LoopGhost
namespace Go.Proofs.Ytocmgdhgimpfhaa
open Go.RowKit

theorem str_row (w : World) (L : List UInt8) : ∃ A c w', (convert 9 44 (.string (str L))).run Try.prog w = .ok (.slice A L.length c) w' ∧ Below w.heap.size w w' ∧ Bts w' 0 w'.heap.size A L.length L := by
  have h := Lib.run_convert_string_bytes (P := Try.prog) w 9 44 5 (str L) Try.underlying9 Try.underlying44 Try.underlying5
  rw [str_size] at h
  refine ⟨_, _, _, h, ⟨rfl, rfl, rfl, by rw [Lib.bytesWorld_size]; omega, fun j hj => Lib.bytesWorld_at_old w 5 (str L) j hj⟩, rfl, fun _ => ⟨w.heap.size, 0, rfl, Nat.zero_le _, by rw [Lib.bytesWorld_size]; omega, fun j u hu => ?_⟩⟩
  have hj : j < L.length := by have := (List.getElem?_eq_some_iff.1 hu).1; rwa [bs_len] at this
  have := Lib.bytesWorld_cell w 5 (str L) j (by rw [str_size]; exact hj)
  rw [Nat.zero_add, this, str_data]
  rw [bs_get _ _ hj] at hu
  rw [← hu]
  simp [List.getD, hj]
theorem rs5 (t : Nat) : ∃ x : Nat, x < 5 ∧ Int.tmod (t : Int) 5 = (x : Int) ∧ (t : Int) % 5 = (x : Int) ∧ (x : Int) % 256 = (x : Int) ∧ IntKind.u8.wrap (x : Int) = (x : Int) ∧ wrap64 (x : Int) = (x : Int) ∧ IntKind.i64.wrap (x : Int) = (x : Int) ∧ (x : Int) ≤ 9223372036854775807 := by
  have h : t % 5 < 5 := Nat.mod_lt _ (by omega)
  have h1 : Int.tmod (t : Int) 5 = ((t % 5 : Nat) : Int) := by rw [Int.tmod_eq_emod_of_nonneg (by omega)]; omega
  have h2 : (t : Int) % 5 = ((t % 5 : Nat) : Int) := by omega
  refine ⟨t % 5, h, h1, h2, ?_⟩
  clear h1 h2
  generalize t % 5 = x at *
  exact ⟨by omega, wrap8 (by omega), by unfold wrap64; omega, IntWalk.i64_in _ (by omega), by omega⟩
theorem bs_two {j x : Nat} (hj : j < 256) (hx : x < 256) : bs [UInt8.ofNat j, UInt8.ofNat x] = [.int .u8 (j : Int), .int .u8 (x : Int)] := by
  show [Value.int .u8 ((UInt8.ofNat j).toNat : Int), Value.int .u8 ((UInt8.ofNat x).toNat : Int)] = _
  have h1 : (UInt8.ofNat j).toNat = j := by simp; omega
  have h2 : (UInt8.ofNat x).toNat = x := by simp; omega
  rw [h1, h2]
theorem conv_two (w : World) {j x : Nat} (hj : j < 256) (hx : x < 256) : (convert 44 9 (.slice (some ⟨w.heap.size, 0, none⟩) 2 2)).run Try.prog (w.alloc (.cells #[.int .u8 (j : Int), .int .u8 (x : Int)] 5)) = .ok (.string (str [UInt8.ofNat j, UInt8.ofNat x])) (w.alloc (.cells #[.int .u8 (j : Int), .int .u8 (x : Int)] 5)) := by
  have h := Bts.lit w 5 [UInt8.ofNat j, UInt8.ofNat x]
  rw [bs_two hj hx] at h
  exact run_str _ _ _ Try.underlying44 Try.underlying5 Try.underlying9 h
end Go.Proofs.Ytocmgdhgimpfhaa
