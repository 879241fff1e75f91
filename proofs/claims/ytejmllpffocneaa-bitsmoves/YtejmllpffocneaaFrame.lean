/- The frame of a law's proof: what the walk is told of the arguments that came in. -/
import Derived.Test.YtejmllpffocneaaRows
import Derived.Test.YtejmllpffocneaaBase
import Derived.ProofKit
import Derived.OpenShut
import Derived.ShutString
import Derived.ChangeOld
import Derived.SliceStrings
import Derived.Deep.Grids
namespace Go.Proofs.Ytejmllpffocneaa
open Go.ChangeShapes Go.WideShapes Go.ChangeAt Go.RowKit

theorem Try.own : ownKnob Try.prog.godebug = none := by kernel_rfl
theorem Try.laidOut : laidOutB Try.prog = true := by kernel_rfl

/-- A slice of numbers that came in: nil, or a row of cap cells, all below the heap's end. -/
def IsRow (k : IntKind) (w : World) (a : Option Addr) (len cap : Nat) (zs : List Int) : Prop :=
  (a = none ∧ len = 0 ∧ cap = 0 ∧ zs = []) ∨
  ∃ x, a = some x ∧ len ≤ cap ∧ cap ≤ maxLen ∧ zs.length = cap ∧ (0 < cap → x.block < w.heap.size) ∧ (∀ i, i < zs.length → w.cell? (x.add i) = some (.int k (zs.getD i 0))) ∧ ∀ n ∈ zs, (Lit.int k n).wf = true

section
variable {H : Type} {enc : TypeId × Value → H} {P : Program} {w : World}
theorem isRow_of {t e : TypeId} {k : IntKind} {fuel : Nat} {a : Option Addr} {len cap : Nat} {d : DataW H} {p : List MemPlace} (ht : P.underlying t = some (.slice e)) (he : P.underlying e = some (.int k)) (hc : P.cellsOf e = 1)
    (h : DataW.trod enc P w 0 (fun _ => true) true fuel t (Value.slice a len cap).cells.toList = some (d, p)) (_hlt : ∀ x ∈ p, x.block < w.heap.size) : ∃ zs, IsRow k w a len cap zs := by
  rcases open_ints ht he hc h with ⟨hcs, _⟩ | ⟨x, l, c, zs, hcs, _, hl, hm, hz, hx, hcell, hwz⟩
  · simp [Value.cells] at hcs
    obtain ⟨rfl, rfl, rfl⟩ := hcs
    exact ⟨[], .inl ⟨rfl, rfl, rfl, rfl⟩⟩
  · simp [Value.cells] at hcs
    obtain ⟨rfl, rfl, rfl⟩ := hcs
    have hz' : zs.length = cap := by simpa using hz
    refine ⟨zs, .inr ⟨_, rfl, hl, hm, hz', fun h0 => ?_, hcell, hwz⟩⟩
    have hc0 := hcell 0 (by omega)
    have hadd : x.add 0 = x := by unfold Addr.add; simp
    rw [hadd] at hc0
    unfold World.cell? at hc0
    rcases Nat.lt_or_ge x.block w.heap.size with hlt | hge
    · exact hlt
    · rw [Array.getElem?_eq_none hge] at hc0
      simp at hc0
end

theorem wf_u8 {a : Int} (h : (Lit.int .u8 a).wf = true) : 0 ≤ a ∧ a < 256 := by simp [Lit.wf, IntKind.min, IntKind.max, IntKind.signed, IntKind.bits] at h; omega
theorem wf_u64 {a : Int} (h : (Lit.int .u64 a).wf = true) : 0 ≤ a ∧ a < 18446744073709551616 := by simp [Lit.wf, IntKind.min, IntKind.max, IntKind.signed, IntKind.bits] at h; omega
theorem wf_i64 {a : Int} (h : (Lit.int .i64 a).wf = true) : -9223372036854775808 ≤ a ∧ a ≤ 9223372036854775807 := by simp [Lit.wf, IntKind.min, IntKind.max, IntKind.signed, IntKind.bits] at h; omega

/-- A slice of strings that came in. -/
def IsRowS (w : World) (a : Option Addr) (len cap : Nat) (ss : List ByteArray) : Prop :=
  (a = none ∧ len = 0 ∧ cap = 0 ∧ ss = []) ∨
  ∃ x, a = some x ∧ len ≤ cap ∧ cap ≤ maxLen ∧ ss.length = cap ∧ (0 < cap → x.block < w.heap.size) ∧ (∀ i, i < ss.length → w.cell? (x.add i) = some (.string (ss.getD i ByteArray.empty))) ∧ ∀ s ∈ ss, s.size ≤ maxLen

theorem block_lt {w : World} {x : Addr} {v : Value} (h : w.cell? x = some v) : x.block < w.heap.size := by
  unfold World.cell? at h
  rcases Nat.lt_or_ge x.block w.heap.size with hlt | hge
  · exact hlt
  · rw [Array.getElem?_eq_none hge] at h
    simp at h
theorem add_zero_ (x : Addr) : x.add 0 = x := by unfold Addr.add; simp

section
variable {H : Type} {enc : TypeId × Value → H} {P : Program} {w : World}
theorem isRowS_of {t e : TypeId} {fuel : Nat} {a : Option Addr} {len cap : Nat} {d : DataW H} {p : List MemPlace} (ht : P.underlying t = some (.slice e)) (he : P.underlying e = some .string) (hc : P.cellsOf e = 1)
    (h : DataW.trod enc P w 0 (fun _ => true) true fuel t (Value.slice a len cap).cells.toList = some (d, p)) (_hlt : ∀ x ∈ p, x.block < w.heap.size) : ∃ zs, IsRowS w a len cap zs := by
  rcases open_strings ht he hc h with ⟨hcs, _⟩ | ⟨x, l, c, zs, hcs, _, hl, hm, hz, hx, hcell, hwz⟩
  · simp [Value.cells] at hcs
    obtain ⟨rfl, rfl, rfl⟩ := hcs
    exact ⟨[], .inl ⟨rfl, rfl, rfl, rfl⟩⟩
  · simp [Value.cells] at hcs
    obtain ⟨rfl, rfl, rfl⟩ := hcs
    have hz' : zs.length = cap := by simpa using hz
    refine ⟨zs, .inr ⟨_, rfl, hl, hm, hz', fun h0 => ?_, hcell, hwz⟩⟩
    have hc0 := hcell 0 (by omega)
    rw [add_zero_] at hc0
    exact block_lt hc0
end

/-- What was read of a row, as a list of cells. -/
theorem lst_of {w : World} {x : Addr} {len cap : Nat} {xs : List Value} (hl : len ≤ cap) (hx : xs.length = cap) (hb : 0 < cap → x.block < w.heap.size) (hc : ∀ i, i < xs.length → w.cell? (x.add i) = xs[i]?) : Lst w 0 w.heap.size (some x) len (xs.take len) := by
  refine ⟨by simp; omega, fun h0 => ?_⟩
  have h1 := hc 0 (by omega)
  rw [add_zero_, List.getElem?_eq_getElem (by omega)] at h1
  have hs := World.cell?_spot h1
  obtain ⟨b, off, spot⟩ := x
  simp at hs
  subst hs
  refine ⟨b, off, rfl, Nat.zero_le _, hb (by omega), fun j u hu => ?_⟩
  rw [List.getElem?_take] at hu
  split at hu
  · rename_i hj
    rw [← add_plain, hc j (by omega)]
    exact hu
  · cases hu

theorem argI {k : IntKind} {w : World} {a : Option Addr} {len cap : Nat} {zs : List Int} (h : IsRow k w a len cap zs) :
    Lst w 0 w.heap.size a len ((zs.take len).map (Value.int k)) ∧ len ≤ cap ∧ cap ≤ maxLen ∧ (∀ n ∈ zs.take len, (Lit.int k n).wf = true) ∧ (zs.take len).length = len := by
  rcases h with ⟨rfl, rfl, rfl, rfl⟩ | ⟨x, rfl, hl, hm, hz, hb, hc, hw⟩
  · exact ⟨⟨rfl, fun h => by omega⟩, by omega, by omega, by simp, rfl⟩
  · refine ⟨?_, hl, hm, fun n hn => hw n (List.mem_of_mem_take hn), by simp; omega⟩
    rw [List.map_take]
    refine lst_of hl (by simpa using hz) hb fun i hi => ?_
    rw [hc i (by simpa using hi)]
    simp at hi
    simp [List.getD, hi]
theorem argS {w : World} {a : Option Addr} {len cap : Nat} {ss : List ByteArray} (h : IsRowS w a len cap ss) :
    Lst w 0 w.heap.size a len ((ss.take len).map Value.string) ∧ len ≤ cap ∧ cap ≤ maxLen ∧ (∀ s ∈ ss.take len, s.size ≤ maxLen) ∧ (ss.take len).length = len := by
  rcases h with ⟨rfl, rfl, rfl, rfl⟩ | ⟨x, rfl, hl, hm, hz, hb, hc, hw⟩
  · exact ⟨⟨rfl, fun h => by omega⟩, by omega, by omega, by simp, rfl⟩
  · refine ⟨?_, hl, hm, fun n hn => hw n (List.mem_of_mem_take hn), by simp; omega⟩
    rw [List.map_take]
    refine lst_of hl (by simpa using hz) hb fun i hi => ?_
    rw [hc i (by simpa using hi)]
    simp at hi
    simp [List.getD, hi]
theorem argB {w : World} {a : Option Addr} {len cap : Nat} {zs : List Int} (h : IsRow .u8 w a len cap zs) :
    ∃ l : List UInt8, Bts w 0 w.heap.size a len l ∧ len ≤ cap ∧ cap ≤ maxLen := by
  obtain ⟨h1, h2, h3, h4, h5⟩ := argI h
  refine ⟨(zs.take len).map fun n => UInt8.ofNat n.toNat, Lst.bytes ?_, h2, h3⟩
  have : bs ((zs.take len).map fun n => UInt8.ofNat n.toNat) = (zs.take len).map (Value.int .u8) := by
    unfold bs
    rw [List.map_map]
    apply List.map_congr_left
    intro n hn
    have := wf_u8 (h4 n hn)
    simp
    omega
  rw [this]
  exact h1
end Go.Proofs.Ytejmllpffocneaa

/- Rows of bools that came in. -/
namespace Go.Proofs.Ytejmllpffocneaa
open Go.ChangeShapes Go.WideShapes Go.ChangeAt Go.RowKit

section
variable {H : Type} {enc : TypeId × Value → H} {w : World}
theorem isRow_bts {a : Option Addr} {len cap : Nat} {zs : List Int} (h : IsRow .u8 w a len cap zs) : ∃ l : List UInt8, Bts w 0 w.heap.size a len l ∧ len ≤ cap := by
  obtain ⟨l, h1, h2, _⟩ := argB h
  exact ⟨l, h1, h2⟩
theorem bools_of {t e : TypeId} {fuel : Nat} {cs : List Value} {x : DataW H × List MemPlace} (ht : Try.prog.underlying t = some (.slice e)) (he : Try.prog.underlying e = some .bool) (hc : Try.prog.cellsOf e = 1)
    (h : DataW.trod enc Try.prog w 0 (fun _ => true) true fuel t cs = some x) : ∃ (a : Option Addr) (len cap : Nat) (ks : List Bool), cs = [.slice a len cap] ∧ len ≤ cap ∧ Lst w 0 w.heap.size a len (ks.map Value.bool) := by
  rcases Deep.open_bools ht he hc h with ⟨hcs, _⟩ | ⟨a, len, cap, B, hcs, _, hl, _, _, hcell⟩
  · exact ⟨none, 0, 0, [], hcs, Nat.le_refl _, ⟨rfl, fun h => absurd h (by decide)⟩⟩
  · refine ⟨some a, len, cap, ((List.range cap).map B).take len, hcs, hl, ?_⟩
    rw [List.map_take]
    refine lst_of hl (by simp) (fun h0 => ?_) fun i hi => ?_
    · have := hcell 0 h0
      rw [add_zero_] at this
      exact block_lt this
    · simp at hi
      rw [hcell i hi]
      simp [hi]
theorem boolsArg {t e : TypeId} {fuel : Nat} {a : Option Addr} {len cap : Nat} {x : DataW H × List MemPlace} (ht : Try.prog.underlying t = some (.slice e)) (he : Try.prog.underlying e = some .bool) (hc : Try.prog.cellsOf e = 1)
    (h : DataW.trod enc Try.prog w 0 (fun _ => true) true fuel t (Value.slice a len cap).cells.toList = some x) : ∃ ks : List Bool, Lst w 0 w.heap.size a len (ks.map Value.bool) := by
  obtain ⟨a', l', c', ks, hcs, _, hl⟩ := bools_of ht he hc h
  simp [Value.cells] at hcs
  obtain ⟨rfl, rfl, rfl⟩ := hcs
  exact ⟨ks, hl⟩
theorem boolsArgC {t e : TypeId} {fuel : Nat} {a : Option Addr} {len cap : Nat} {x : DataW H × List MemPlace} (ht : Try.prog.underlying t = some (.slice e)) (he : Try.prog.underlying e = some .bool) (hc : Try.prog.cellsOf e = 1)
    (h : DataW.trod enc Try.prog w 0 (fun _ => true) true fuel t (Value.slice a len cap).cells.toList = some x) : ∃ ks : List Bool, Lst w 0 w.heap.size a len (ks.map Value.bool) ∧ len ≤ cap := by
  obtain ⟨a', l', c', ks, hcs, h2, hl⟩ := bools_of ht he hc h
  simp [Value.cells] at hcs
  obtain ⟨rfl, rfl, rfl⟩ := hcs
  exact ⟨ks, hl, h2⟩
end
end Go.Proofs.Ytejmllpffocneaa
