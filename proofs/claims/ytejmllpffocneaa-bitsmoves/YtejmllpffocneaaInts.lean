/- Rows of ints as they lie. Nothing is assumed. -/
import Derived.Test.YtejmllpffocneaaProg
import Derived.Test.YtejmllpffocneaaRuMath
namespace Go.Proofs.Ytejmllpffocneaa
open Go.RowKit

theorem Try.infoI_ : (Try.prog.info? 3).map (fun i => (i.zero, i.size, i.bytes)) = some (some (.int .i64 0), 1, 8) := by kernel_rfl
theorem lst_i {w : World} {lo hi n : Nat} {A : Option Addr} {l : List Int} (h : Lst w lo hi A n (ics l)) {j : Nat} (hj : j < l.length) : ∃ g off, A = some ⟨g, off, none⟩ ∧ lo ≤ g ∧ g < hi ∧ w.cell? ⟨g, off + j, none⟩ = some (.int .i64 l[j]) := by
  have hl := h.1
  rw [ics_len] at hl
  obtain ⟨g, off, e, h1, h2, hc⟩ := h.at_ (k := j) (by omega)
  exact ⟨g, off, e, h1, h2, hc.trans (by simp [ics])⟩
theorem lst_dropI {w : World} {lo hi n : Nat} {g off : Nat} {l : List Int} (h : Lst w lo hi (some ⟨g, off, none⟩) n (ics l)) (k : Nat) : Lst w lo hi (some ⟨g, off + k, none⟩) (n - k) (ics (l.drop k)) := by
  have hl := h.1
  rw [ics_len] at hl
  refine ⟨by rw [ics_len, List.length_drop]; omega, fun hn => ?_⟩
  obtain ⟨g', off', e, h1, h2, hc⟩ := h.2 (by omega)
  injection e with e
  injection e with e1 e2
  subst e1 e2
  refine ⟨g, off + k, rfl, h1, h2, fun j u hu => ?_⟩
  have e : ics (l.drop k) = (ics l).drop k := by simp [ics, List.map_drop]
  rw [e, List.getElem?_drop] at hu
  rw [Nat.add_assoc]
  exact hc _ u hu
theorem own_cut0 {w w1 : World} {m : Nat} {e : TypeId} {z : Value} (hblk : w1.heap[w.heap.size]? = some (.cells (zeros m z).toArray e (0, 0))) (hm : m ≤ maxLen) {b : Nat} (hb : b ≤ w.heap.size) :
    w1.ownsRow b e 1 (.slice (some ⟨w.heap.size, 0, none⟩) 0 m) 0 [] :=
  ⟨rfl, .inr ⟨_, _, _, rfl, hb, hblk, Nat.zero_le _, hm, by simp [zeros_len], by rw [Nat.zero_mul]; rfl⟩⟩
end Go.Proofs.Ytejmllpffocneaa
