/- Rows of bytes that a call makes, further: made empty; two bytes laid behind; hexadecimal pairs. -/
import Derived.Test.YtfjpnkchldjjmaaGreatDoorVlText
import Derived.Test.YtfjpnkchldjjmaaGreatDoorProg
import Derived.Test.YtfjpnkchldjjmaaGreatDoorBase
import Derived.Test.YtfjpnkchldjjmaaGreatDoorVlStr
namespace Go.Proofs.YtfjpnkchldjjmaaGreatDoor
open Go.RowKit

theorem Tryz.infoU8 : (Tryz.prog.info? 5).map (fun i => (i.zero, i.size, i.bytes)) = some (some (.int .u8 0), 1, 1) := by kernel_rfl
theorem own_made {w w1 : World} {m : Nat} {e : TypeId} {z : Value} (hblk : w1.heap[w.heap.size]? = some (.cells (zeros m z).toArray e (0, 0))) (hm : m ≤ maxLen) :
    w1.ownsRow w.heap.size e 1 (.slice (some ⟨w.heap.size, 0, none⟩) 0 m) 0 [] :=
  ⟨rfl, .inr ⟨_, _, _, rfl, Nat.le_refl _, hblk, by omega, hm, by simp [zeros_len], by simp⟩⟩
theorem lit2 (w : World) (e : TypeId) (a b : UInt8) : Lst (w.alloc (.cells #[.int .u8 (a.toNat : Int), .int .u8 (b.toNat : Int)] e)) w.heap.size (w.heap.size + 1) (some ⟨w.heap.size, 0, none⟩) 2 (bs [a, b]) :=
  (Bts.lit w e [a, b]).lst
theorem hex2_app : ∀ a b : List UInt8, hex2 (a ++ b) = hex2 a ++ hex2 b
  | [], _ => rfl
  | c :: r, b => by rw [List.cons_append, hex2, hex2, hex2_app r b]; rfl
theorem hex2_all : ∀ (s : List UInt8), ∀ c ∈ hex2 s, ∃ d, d < 16 ∧ c = hexd d
  | [], c, h => by cases h
  | b :: r, c, h => by
    have hb := b.toNat_lt
    rw [hex2] at h
    rcases List.mem_cons.1 h with h | h
    · exact ⟨_, by omega, h⟩
    rcases List.mem_cons.1 h with h | h
    · exact ⟨_, by omega, h⟩
    · exact hex2_all r c h
theorem hex2_snoc (b : List UInt8) (c : UInt8) : hex2 (b ++ [c]) = hex2 b ++ [hexd (c.toNat / 16), hexd (c.toNat % 16)] := by rw [hex2_app]; rfl
theorem hex2_step {b d : List UInt8} {i x y : Nat} (hb : hex2 b = d.take i) (h1 : d[i]? = some (hexd x)) (h2 : d[i + 1]? = some (hexd y)) (hx : x < 16) (hy : y < 16) : hex2 (b ++ [UInt8.ofNat (16 * x + y)]) = d.take (i + 2) := by
  have e : (UInt8.ofNat (16 * x + y)).toNat = 16 * x + y := by simp; omega
  rw [hex2_snoc, hb, e, show (16 * x + y) / 16 = x by omega, show (16 * x + y) % 16 = y by omega]
  obtain ⟨g1, e1⟩ := List.getElem?_eq_some_iff.1 h1
  obtain ⟨g2, e2⟩ := List.getElem?_eq_some_iff.1 h2
  have t2 : d.take (i + 2) = d.take (i + 1) ++ [d[i + 1]] := List.take_succ_eq_append_getElem g2
  have t1 : d.take (i + 1) = d.take i ++ [d[i]] := List.take_succ_eq_append_getElem g1
  rw [t2, t1, e1, e2, List.append_assoc]
  rfl
end Go.Proofs.YtfjpnkchldjjmaaGreatDoor
