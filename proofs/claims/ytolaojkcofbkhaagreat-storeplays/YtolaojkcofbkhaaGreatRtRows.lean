import Derived.Test.YtolaojkcofbkhaaGreatRtFirst
import Derived.Test.YtolaojkcofbkhaaGreatFrame
import Derived.Lib.ConvBytes
import Derived.Deep.LoopGhost
import Derived.Test.YtolaojkcofbkhaaGreatNums
namespace Go.Proofs.YtolaojkcofbkhaaGreat
open Go.RowKit
theorem str_row (w : World) (L : List UInt8) : ∃ A c w', (convert 9 51 (.string (str L))).run Tryz.prog w = .ok (.slice A L.length c) w' ∧ Below w.heap.size w w' ∧ Bts w' 0 w'.heap.size A L.length L := by
 have h := Lib.run_convert_string_bytes (P := Tryz.prog) w 9 51 5 (str L) Tryz.underlying9 Tryz.underlying51 Tryz.underlying5
 rw [str_size] at h
 refine ⟨_, _, _, h, ⟨rfl, rfl, rfl, by rw [Lib.bytesWorld_size]; omega, fun j hj => Lib.bytesWorld_at_old w 5 (str L) j hj⟩, rfl, fun _ => ⟨w.heap.size, 0, rfl, Nat.zero_le _, by rw [Lib.bytesWorld_size]; omega, fun j u hu => ?_⟩⟩
 have hj : j < L.length := by have := (List.getElem?_eq_some_iff.1 hu).1; rwa [bs_len] at this
 have := Lib.bytesWorld_cell w 5 (str L) j (by rw [str_size]; exact hj)
 rw [Nat.zero_add, this, str_data]
 rw [bs_get _ _ hj] at hu
 rw [← hu]
 simp [List.getD, hj]
end Go.Proofs.YtolaojkcofbkhaaGreat
