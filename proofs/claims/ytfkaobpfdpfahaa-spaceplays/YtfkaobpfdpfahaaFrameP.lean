/- The frame of a law's proof, further: rows of the scripts' operations on a map that came in. -/
import Derived.Test.YtfkaobpfdpfahaaFrame
import Derived.Test.YtfkaobpfdpfahaaSpPlay
namespace Go.Proofs.Ytfkaobpfdpfahaa
open Go.ChangeShapes Go.WideShapes Go.ChangeAt Go.RowKit

section
variable {H : Type} {enc : TypeId × Value → H} {w : World}
theorem opsP_at {fuel : Nat} {a : Option Addr} {len cap : Nat} {d : DataW H} {p : List MemPlace}
    (h : DataW.trod enc Try.prog w 0 (fun _ => true) true fuel 22 (Value.slice a len cap).cells.toList = some (d, p)) : (∀ j, j < len → ∃ x : Int × Int, ∃ b off, a = some ⟨b, off, none⟩ ∧ b < w.heap.size ∧ w.rangeAt b (off + j * 2) (oc x)) ∧ len ≤ 9223372036854775807 := by
  rcases DataW.trod_slice Try.underlying22 h with ⟨hcs, _⟩ | ⟨x, l, c, elems, rest, n, _, hcs, _, _, hl, hmx, hlen, hel, _⟩
  · simp [Value.cells] at hcs
    obtain ⟨rfl, rfl, rfl⟩ := hcs
    exact ⟨fun j hj => absurd hj (by omega), by decide⟩
  · simp [Value.cells] at hcs
    obtain ⟨rfl, rfl, rfl⟩ := hcs
    have h4 : Try.prog.cellsOf 32 = 2 := by kernel_rfl
    have hsp0 : 0 < len → x.spot = none := fun h0 => by
      have hj' := hel 0 h0
      rw [h4, List.getElem?_eq_getElem (by omega)] at hj'
      obtain ⟨cs, hc1, hc2⟩ := Option.bind_eq_some_iff.1 hj'
      obtain ⟨_, hcl, hcell⟩ := World.cells?_some hc1
      have := hcell 0 (by omega)
      rw [Nat.zero_mul, add_zero_, add_zero_, List.getElem?_eq_getElem (by omega)] at this
      exact World.cell?_spot this
    refine ⟨fun j hj => ?_, by unfold maxLen at hmx; omega⟩
    have hj' := hel j hj
    rw [h4, List.getElem?_eq_getElem (by omega)] at hj'
    obtain ⟨cs, hc1, hc2⟩ := Option.bind_eq_some_iff.1 hj'
    obtain ⟨xs, m, _, _, hcl, hxl, hf⟩ := DataW.trod_struct Try.underlying32 hc2
    rw [h4] at hcl
    match cs, hcl with
    | [c0, c1], _ =>
      have g1 : Try.prog.cellsOf 3 = 1 := by kernel_rfl
      have hx2 : xs.length = 2 := hxl
      have f0 := hf 0 _ rfl
      have f1 := hf 1 _ rfl
      change DataW.trod enc Try.prog w 0 _ true m 3 (([c0, c1].drop 0).take (Try.prog.cellsOf 3)) = _ at f0
      change DataW.trod enc Try.prog w 0 _ true m 3 (([c0, c1].drop 1).take (Try.prog.cellsOf 3)) = _ at f1
      rw [g1] at f0 f1
      change DataW.trod enc Try.prog w 0 _ true m 3 [c0] = _ at f0
      change DataW.trod enc Try.prog w 0 _ true m 3 [c1] = _ at f1
      rw [List.getElem?_eq_getElem (by omega)] at f0 f1
      obtain ⟨k0, e0, _, w0⟩ := DataW.trod_int Try.underlying3 f0
      obtain ⟨k1, e1, _, w1⟩ := DataW.trod_int Try.underlying3 f1
      injection e0 with e0
      injection e1 with e1
      subst e0 e1
      obtain ⟨_, _, hcell⟩ := World.cells?_some hc1
      have hs := hsp0 (by omega)
      obtain ⟨b, off, spot⟩ := x
      have hsp : spot = none := hs
      subst hsp
      have hlt := block_lt (hcell 0 (by omega))
      rw [add_plain, add_plain] at hlt
      refine ⟨(k0, k1), b, off, rfl, hlt, fun t v hv => ?_⟩
      have ht : t < 2 := (List.getElem?_eq_some_iff.1 hv).1
      have := hcell t ht
      rw [add_plain, add_plain] at this
      rw [this]
      exact hv
theorem opsP_of {fuel : Nat} {a : Option Addr} {len cap : Nat} {d : DataW H} {p : List MemPlace}
    (h : DataW.trod enc Try.prog w 0 (fun _ => true) true fuel 22 (Value.slice a len cap).cells.toList = some (d, p)) : ∃ o : Nat → Int × Int, OpsP w w.heap.size a len o ∧ len ≤ 9223372036854775807 := by
  obtain ⟨h1, h2⟩ := opsP_at h
  refine ⟨fun j => if hj : j < len then (h1 j hj).choose else (0, 0), fun j hj => ?_, h2⟩
  have := (h1 j hj).choose_spec
  simp only [hj, dite_true]
  exact this
end
end Go.Proofs.Ytfkaobpfdpfahaa
