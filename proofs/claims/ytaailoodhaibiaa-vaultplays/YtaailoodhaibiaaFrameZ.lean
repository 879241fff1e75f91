/- The frame of a law's proof, further: a script's operations whose bytes are within what the form's own reach says of each slice that is read. -/
import Derived.Test.YtaailoodhaibiaaVaultPlaysW
import Derived.SizedLaws
namespace Go.Proofs.Ytaailoodhaibiaa
open Go.ChangeShapes Go.WideShapes Go.ChangeAt Go.RowKit

theorem wAll {H : Type} {P : Program} {e : TypeId} {n : Nat} : ∀ {l : List (DataW H)} {d : DataW H}, d ∈ l → n ∈ d.weights P e → n ∈ DataW.weightsAll P e l
  | x :: r, d, hd, hn => by
    simp only [DataW.weightsAll, List.mem_append]
    rcases List.mem_cons.1 hd with rfl | h
    · exact .inl hn
    · exact .inr (wAll h hn)
section
variable {H : Type} {enc : TypeId × Value → H} {w : World}
/-- The elements of a slice that came in, each read by itself, no heavier than the whole. -/
theorem elems_ofZ {t e : TypeId} {z fuel : Nat} {a : Option Addr} {len cap : Nat} {d : DataW H} {p : List MemPlace} (ht : Try.prog.underlying t = some (.slice e)) (hz : Try.prog.cellsOf e = z) (hz1 : 0 < z)
    (h : DataW.trod enc Try.prog w 0 (fun _ => true) true fuel t (Value.slice a len cap).cells.toList = some (d, p)) :
    len ≤ 9223372036854775807 ∧ ∀ j, j < len → ∃ b off cs n x, a = some ⟨b, off, none⟩ ∧ b < w.heap.size ∧ cs.length = z ∧ w.rangeAt b (off + j * z) cs ∧ DataW.trod enc Try.prog w 0 (fun _ => true) true n e cs = some x ∧ ∀ k ∈ x.1.weights Try.prog e, k ∈ d.weights Try.prog t := by
  rcases DataW.trod_slice ht h with ⟨hcs, _⟩ | ⟨x, l, c, elems, rest, n, _, hcs, hd, _, hl, hmx, hlen, hel, _⟩
  · simp [Value.cells] at hcs
    obtain ⟨rfl, rfl, rfl⟩ := hcs
    exact ⟨by decide, fun j hj => absurd hj (by omega)⟩
  · simp [Value.cells] at hcs
    obtain ⟨rfl, rfl, rfl⟩ := hcs
    rw [hz] at hel
    refine ⟨by unfold maxLen at hmx; omega, fun j hj => ?_⟩
    have hj' := hel j hj
    rw [List.getElem?_eq_getElem (by omega)] at hj'
    obtain ⟨cs, hc1, hc2⟩ := Option.bind_eq_some_iff.1 hj'
    obtain ⟨_, hcl, hcell⟩ := World.cells?_some hc1
    have hj0 := hel 0 (by omega)
    rw [List.getElem?_eq_getElem (by omega)] at hj0
    obtain ⟨cs0, hc10, _⟩ := Option.bind_eq_some_iff.1 hj0
    obtain ⟨_, hcl0, hcell0⟩ := World.cells?_some hc10
    have hs0 := hcell0 0 (by omega)
    rw [Nat.zero_mul, add_zero_, add_zero_, List.getElem?_eq_getElem (by omega)] at hs0
    have hsp := World.cell?_spot hs0
    obtain ⟨b, off, spot⟩ := x
    have hsp' : spot = none := hsp
    subst hsp'
    have h00 := hcell 0 (by omega)
    rw [List.getElem?_eq_getElem (by omega)] at h00
    have hlt := block_lt h00
    rw [add_plain, add_plain] at hlt
    refine ⟨b, off, cs, n, _, rfl, hlt, by omega, fun t v hv => ?_, hc2, fun k hk => ?_⟩
    · have ht' : t < z := by have := (List.getElem?_eq_some_iff.1 hv).1; omega
      have := hcell t (by omega)
      rw [add_plain, add_plain] at this
      rw [this]
      exact hv
    · injection hd with hd1 hd2
      rw [hd1]
      simp only [DataW.weights, ht, List.mem_cons, List.mem_append]
      exact .inr (.inl (wAll (List.mem_map_of_mem (List.getElem_mem _)) hk))
theorem Try.bytesU8 : Try.prog.bytesOf 5 = 1 := by kernel_rfl
theorem bytes_w {fuel : Nat} {B : Option Addr} {n c : Nat} {x : DataW H × List MemPlace} (f2 : DataW.trod enc Try.prog w 0 (fun _ => true) true fuel 33 [.slice B n c] = some x) (hw : ∀ k ∈ x.1.weights Try.prog 33, k ≤ reachBytes) : n ≤ 140737488351232 := by
  rcases open_ints Try.underlying33 Try.underlying5 (by kernel_rfl) f2 with ⟨hcs, _⟩ | ⟨y, l, c', zs, hcs, _, hl, hm, hz, hx, _, _⟩
  · injection hcs with hcs
    injection hcs with _ h2
    omega
  · have hz' : zs.length = c' := by simpa using hz
    injection hcs with hcs
    injection hcs with _ h2 h3
    subst hx
    have := hw (((lits (H := H) .u8 (zs.take l)).length + (lits (H := H) .u8 (zs.drop l)).length) * Try.prog.bytesOf 5) (by simp only [DataW.weights, Try.underlying33, List.mem_cons]; exact .inl trivial)
    rw [Try.bytesU8] at this
    simp only [lits, List.length_map, List.length_take, List.length_drop] at this
    have hr : reachBytes = 140737488351232 := rfl
    omega
theorem op_ofZ {fuel : Nat} {cs : List Value} {x : DataW H × List MemPlace} (hl : cs.length = 7) (h : DataW.trod enc Try.prog w 0 (fun _ => true) true fuel 36 cs = some x) (hw : ∀ k ∈ x.1.weights Try.prog 36, k ≤ reachBytes) : ∃ o : OpW, cs = o.cells ∧ o.ok w w.heap.size ∧ o.n ≤ 140737488351232 := by
  obtain ⟨o, rfl, ho⟩ := op_of hl h
  refine ⟨o, rfl, ho, ?_⟩
  obtain ⟨xs, m, _, hx, _, hxl, hf⟩ := DataW.trod_struct Try.underlying36 h
  have hx5 : xs.length = 5 := hxl
  have g2 : Try.prog.cellsOf 33 = 1 := by kernel_rfl
  have f3 := hf 3 _ rfl
  change DataW.trod enc Try.prog w 0 _ true m 33 ((o.cells.drop 5).take (Try.prog.cellsOf 33)) = _ at f3
  rw [g2] at f3
  change DataW.trod enc Try.prog w 0 _ true m 33 [.slice o.A o.n o.c] = _ at f3
  rw [List.getElem?_eq_getElem (by omega)] at f3
  refine bytes_w f3 fun k hk => hw k ?_
  rw [hx]
  simp only [DataW.weights, Try.underlying36]
  exact DataW.weights_mem_each (j := 3) (t := 33) (d := (xs[3]).1) rfl (by rw [List.getElem?_map, List.getElem?_eq_getElem (by omega)]; rfl) k hk
theorem opsArgZ {fuel : Nat} {a : Option Addr} {len cap : Nat} {d : DataW H} {p : List MemPlace} (h : DataW.trod enc Try.prog w 0 (fun _ => true) true fuel 22 (Value.slice a len cap).cells.toList = some (d, p)) (hw : ∀ k ∈ d.weights Try.prog 22, k ≤ reachBytes) : OpsZ w w.heap.size a len ∧ len ≤ 9223372036854775807 := by
  obtain ⟨h1, h2⟩ := elems_ofZ Try.underlying22 (z := 7) (by kernel_rfl) (by decide) h
  refine ⟨fun j hj => ?_, h1⟩
  obtain ⟨b, off, cs, n, x, hA, hb, hl, hr, ht, hwx⟩ := h2 j hj
  obtain ⟨o, rfl, ho, hon⟩ := op_ofZ hl ht fun k hk => hw k (hwx k hk)
  exact ⟨b, off, o, hA, hb, hr, ho, hon⟩
end
end Go.Proofs.Ytaailoodhaibiaa
