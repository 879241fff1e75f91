/- What a row lists of the library's variables gives what the walks ask of a world; and one world that fits. -/
import Derived.Test.YtfjpnkchldjjmaaGreatDoorRows
import Derived.Test.YtfjpnkchldjjmaaGreatDoorFlLw
import Derived.Test.YtfjpnkchldjjmaaGreatDoorFrame
import Derived.Stop.LaidErr
import Derived.Lib.LaidTab
import Derived.LaidLaws
import Derived.JoinedOf
import Derived.SizedLaws
import Derived.Handed
namespace Go.Proofs.YtfjpnkchldjjmaaGreatDoor
open Go.RowKit

theorem g_pow : Tryz.prog.globalNamed "internal/strconv.uint64pow10" = some 4 := by kernel_rfl
theorem gt_pow : (Tryz.prog.globals[4]?).map (·.type) = some 143 := by kernel_rfl
theorem ce_pow : Tryz.prog.cellsOf 24 = 1 := by kernel_rfl
theorem ct_pow : Tryz.prog.cellsOf 143 = 20 := by kernel_rfl
theorem g_64 : Tryz.prog.globalNamed "math/bits.deBruijn64tab" = some 6 := by kernel_rfl
theorem gt_64 : (Tryz.prog.globals[6]?).map (·.type) = some 151 := by kernel_rfl
theorem ce_64 : Tryz.prog.cellsOf 5 = 1 := by kernel_rfl
theorem ct_64 : Tryz.prog.cellsOf 151 = 64 := by kernel_rfl
theorem g_syn : Tryz.prog.globalNamed "strconv.ErrSyntax" = some 1 := by kernel_rfl
theorem gt_syn : (Tryz.prog.globals[1]?).map (·.type) = some 86 := by kernel_rfl
theorem g_rng : Tryz.prog.globalNamed "strconv.ErrRange" = some 2 := by kernel_rfl
theorem gt_rng : (Tryz.prog.globals[2]?).map (·.type) = some 86 := by kernel_rfl
theorem c_es : Tryz.prog.cellsOf 140 = 1 := by kernel_rfl
theorem c_str : Tryz.prog.cellsOf 9 = 1 := by kernel_rfl
theorem star_es : "*" ++ "errors.errorString" = "*errors.errorString" := by decide
theorem row_es (u : TypeId) (h : Tryz.prog.typeName? 3 u = some "*errors.errorString") : u = 138 :=
  typeName_ptr_named (nm := "errors.errorString") (by rw [star_es]; kernel_rfl) (by kernel_rfl) (by decide) u (by rw [star_es]; exact h)

def laidAll : List (String × DataW Unit) := [("math/bits.deBruijn32tab", Rows.laid_math_bits_deBruijn32tab), ("math/bits.deBruijn64tab", Rows.laid_math_bits_deBruijn64tab), ("internal/strconv.uint64pow10", Rows.laid_internal_strconv_uint64pow10), ("strconv.ErrRange", Rows.laid_strconv_ErrRange), ("strconv.ErrSyntax", Rows.laid_strconv_ErrSyntax)]
theorem lw_of {W : World} (h : laidMet Tryz.prog laidAll W) : Lw W := by
  have h64 : Lib.TabIs Tryz.prog W "math/bits.deBruijn64tab" .u8 (Lib.deBruijn64tab.map fun (n : Nat) => (n : Int)) :=
    Lib.tabIs_of_head g_64 gt_64 Tryz.underlying151 Tryz.underlying5 ce_64 ct_64 h.tail
  have hpow : Lib.TabIs Tryz.prog W "internal/strconv.uint64pow10" .u64 Lib.pow10Tab :=
    Lib.tabIs_of_head g_pow gt_pow Tryz.underlying143 Tryz.underlying24 ce_pow ct_pow h.tail.tail
  obtain ⟨a1, s1, hv1, -, -, -⟩ := laid_sentinel h.tail.tail.tail g_rng gt_rng Tryz.underlying86 row_es Tryz.underlying138 Tryz.underlying140 rfl rfl Tryz.underlying9 c_es c_str
  obtain ⟨a0, s0, hv0, -, -, -⟩ := laid_sentinel h.tail.tail.tail.tail g_syn gt_syn Tryz.underlying86 row_es Tryz.underlying138 Tryz.underlying140 rfl rfl Tryz.underlying9 c_es c_str
  refine ⟨hpow, fun j hj => ?_, ⟨_, _, by have h0 := World.var?_cell g_syn hv0 0; simpa using h0⟩, ⟨_, _, by have h0 := World.var?_cell g_rng hv1 0; simpa using h0⟩⟩
  have hc := h64.cell g_64 j (by simpa using hj)
  rw [hc]
  simp [List.getD, List.getElem?_map, List.getElem?_eq_getElem hj]

abbrev synS : ByteArray := { data := #[105, 110, 118, 97, 108, 105, 100, 32, 115, 121, 110, 116, 97, 120] }
abbrev rngS : ByteArray := { data := #[118, 97, 108, 117, 101, 32, 111, 117, 116, 32, 111, 102, 32, 114, 97, 110, 103, 101] }
noncomputable def lowB : Nat := (World.holding Tryz.prog default ⟨#[], #[], []⟩).heap.size
noncomputable def laidWorld (os : Os) : World :=
  let w0 := World.holding Tryz.prog os ⟨#[.cells #[.string synS] 140, .cells #[.string rngS] 140], #[], []⟩
  { w0 with heap := ((((w0.heap.modify 1 fun
      | .cells _ t frozen => .cells #[.iface 138 (.pointer (some ⟨lowB, 0, none⟩))] t frozen
      | o => o).modify 2 fun
      | .cells _ t frozen => .cells #[.iface 138 (.pointer (some ⟨lowB + 1, 0, none⟩))] t frozen
      | o => o).modify 4 fun
      | .cells _ t frozen => .cells (Lib.pow10Tab.map fun z => Value.int .u64 z).toArray t frozen
      | o => o).modify 5 fun
      | .cells _ t frozen => .cells (Lib.deBruijn32tab.map fun (n : Nat) => Value.int .u8 (n : Int)).toArray t frozen
      | o => o).modify 6 fun
      | .cells _ t frozen => .cells (Lib.deBruijn64tab.map fun (n : Nat) => Value.int .u8 (n : Int)).toArray t frozen
      | o => o }
theorem laid_met (os : Os) (args : Array Value) : laidMet Tryz.prog laidAll ((laidWorld os).forCall (fun _ _ => 0) ⟨#[], args, []⟩).memory :=
  laidMet_of_run' 8 (by kernel_rfl) (by kernel_rfl)
end Go.Proofs.YtfjpnkchldjjmaaGreatDoor
