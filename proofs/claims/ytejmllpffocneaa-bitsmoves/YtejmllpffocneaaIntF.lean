/- Rows of ints that came in; literals; of no law's own. Nothing is assumed. -/
import Derived.Test.YtejmllpffocneaaInts
import Derived.Test.YtejmllpffocneaaFrame
namespace Go.Proofs.Ytejmllpffocneaa
open Go.RowKit Go.ChangeShapes Go.WideShapes Go.ChangeAt

theorem argII {w : World} {a : Option Addr} {len cap : Nat} {zs : List Int} (h : IsRow .i64 w a len cap zs) : ∃ L : List Int, Lst w 0 w.heap.size a len (ics L) ∧ len ≤ cap ∧ i64s L := by
  obtain ⟨h1, h2, _, h4, _⟩ := argI h
  exact ⟨zs.take len, h1, h2, fun x hx => wf_i64 (h4 x hx)⟩
theorem ics_lit (w : World) (l : List Int) : Lst (w.alloc (.cells (ics l).toArray 3)) 0 (w.alloc (.cells (ics l).toArray 3)).heap.size (some ⟨w.heap.size, 0, none⟩) l.length (ics l) :=
  ⟨ics_len l, fun _ => ⟨w.heap.size, 0, rfl, Nat.zero_le _, by simp, fun j u hu => by
    rw [Nat.zero_add, (Blk.new w 3 (ics l).toArray).cell j, List.getElem?_toArray]
    exact hu⟩⟩
theorem bts_litR (w : World) (l : List UInt8) (m : Nat × Nat) : Bts (w.alloc (.cells (bs l).toArray 5 m)) 0 (w.alloc (.cells (bs l).toArray 5 m)).heap.size (some ⟨w.heap.size, 0, none⟩) l.length l := (Bts.litM w 5 l m).wide (Nat.zero_le _) (by simp)
theorem conv1R (w : World) (C : Array Value) (n c : Nat) : (convert 24 24 (.slice (some ⟨w.heap.size, 0, none⟩) n c)).run Try.prog (w.alloc (.cells C 5)) = .ok (.slice (some ⟨w.heap.size, 0, none⟩) n c) (w.alloc (.cells C 5 (C.size, C.size + 1))) :=
  Lib.run_convert_bytes_const (P := Try.prog) w 24 5 C n c Try.underlying24 Try.underlying5
end Go.Proofs.Ytejmllpffocneaa
