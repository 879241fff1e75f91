/- Texts that are cut and looked at, letter by letter, as the model runs it; of this program's string type. -/
import Derived.Test.YtfjpnkchldjjmaaGreatDoorProg
import Derived.Test.YtfjpnkchldjjmaaGreatDoorBase
import Derived.Test.YtfjpnkchldjjmaaGreatDoorFlText
import Derived.Laws.DeepStrings4
namespace Go.Proofs.YtfjpnkchldjjmaaGreatDoor
open Go.RowKit

theorem vstr_ext (l : List UInt8) (a b : Nat) : (str l).extract a b = str ((l.drop a).take (b - a)) := by
  apply ByteArray.ext
  unfold str
  simp
theorem vstr_app (a b : List UInt8) : str a ++ str b = str (a ++ b) := ByteArray.mk_append_mk a b
theorem vstr_at (l : List UInt8) (i : Nat) (c : UInt8) (h : l[i]? = some c) (k : IntKind) (w : World) : (Instr.index 9 (.string (str l)) (.int k (i : Int))).run Tryz.prog w = .ok (.int .u8 (c.toNat : Int)) w := by
  obtain ⟨hi, hc⟩ := List.getElem?_eq_some_iff.1 h
  rw [run_index_string w 9 _ k i Tryz.underlying9, dif_pos (by rw [str_size]; omega)]
  congr 3
  have h1 : (str l)[i]'(by rw [str_size]; omega) = c := by
    show l.toArray[i]'(by simpa using hi) = c
    simpa using hc
  exact congrArg UInt8.toNat h1
theorem vstr_to (l : List UInt8) (n : Nat) (hn : n ≤ l.length) (w : World) : (Instr.slice 9 (.string (str l)) none (some (.int .i64 (n : Int))) none).run Tryz.prog w = .ok (.string (str (l.take n))) w := by
  rw [run_slice_string_to_if w 9 _ .i64 n Tryz.underlying9, if_pos (by rw [str_size]; omega), vstr_ext]
  simp
theorem vstr_from1 (l : List UInt8) (hn : 1 ≤ l.length) (w : World) : (Instr.slice 9 (.string (str l)) (some (.int .i64 1)) none none).run Tryz.prog w = .ok (.string (str l.tail)) w := by
  rw [run_slice_string_from_if w 9 _ .i64 1 Tryz.underlying9, if_pos (by rw [str_size]; omega), vstr_ext, str_size]
  congr 3
  cases l with
  | nil => rfl
  | cons c r => simp
theorem vidx16 (d : Nat) (hd : d < 16) (w : World) : (Instr.index 9 (.string ⟨#[48, 49, 50, 51, 52, 53, 54, 55, 56, 57, 97, 98, 99, 100, 101, 102]⟩) (.int .u64 (d : Int))).run Tryz.prog w = .ok (.int .u8 ((hexd d).toNat : Int)) w := by
  have h : ∀ e : Fin 16, [48, 49, 50, 51, 52, 53, 54, 55, 56, 57, 97, 98, 99, 100, 101, 102][e.val]? = some (hexd e.val) := by decide
  exact vstr_at [48, 49, 50, 51, 52, 53, 54, 55, 56, 57, 97, 98, 99, 100, 101, 102] d (hexd d) (h ⟨d, hd⟩) .u64 w

theorem vidx16k (d : Nat) (hd : d < 16) (k : IntKind) (w : World) : (Instr.index 9 (.string ⟨#[48, 49, 50, 51, 52, 53, 54, 55, 56, 57, 97, 98, 99, 100, 101, 102]⟩) (.int k (d : Int))).run Tryz.prog w = .ok (.int .u8 ((hexd d).toNat : Int)) w := by
  have h : ∀ e : Fin 16, [48, 49, 50, 51, 52, 53, 54, 55, 56, 57, 97, 98, 99, 100, 101, 102][e.val]? = some (hexd e.val) := by decide
  exact vstr_at [48, 49, 50, 51, 52, 53, 54, 55, 56, 57, 97, 98, 99, 100, 101, 102] d (hexd d) (h ⟨d, hd⟩) k w
theorem and15b (q : Nat) (h : q < 256) : bits .and .u8 (q : Int) 15 = ((q % 16 : Nat) : Int) := by
  have key : ∀ n : Fin 256, bits .and .u8 (n.val : Int) 15 = ((n.val % 16 : Nat) : Int) := by decide +kernel
  exact key ⟨q, h⟩
end Go.Proofs.YtfjpnkchldjjmaaGreatDoor
