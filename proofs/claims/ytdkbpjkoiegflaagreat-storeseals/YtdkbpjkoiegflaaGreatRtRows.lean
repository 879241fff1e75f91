/- What the walks of roots' laws share: a text's bytes as a row of its own, small remainders. Rows of bytes, one behind another, in a row that grows: each in a block of its own, all their blocks among X. -/
import Derived.Test.YtdkbpjkoiegflaaGreatRtFirst
import Derived.Test.YtdkbpjkoiegflaaGreatFrame
import Derived.Lib.ConvBytes
import Derived.Deep.LoopGhost
import Derived.Test.YtdkbpjkoiegflaaGreatNums
namespace Go.Proofs.YtdkbpjkoiegflaaGreat
open Go.RowKit

theorem str_row (w : World) (L : List UInt8) : ∃ A c w', (convert 9 51 (.string (str L))).run Tryz.prog w = .ok (.slice A L.length c) w' ∧ Below w.heap.size w w' ∧ Bts w' 0 w'.heap.size A L.length L := by
  have h := Lib.run_convert_string_bytes (P := Tryz.prog) w 9 51 5 (str L) Tryz.underlying9 Tryz.underlying51 Tryz.underlying5
  rw [str_size] at h
  refine ⟨_, _, _, h, ⟨rfl, rfl, rfl, by rw [Lib.bytesWorld_size]; omega, fun j hj => Lib.bytesWorld_at_old w 5 (str L) j hj⟩, rfl, fun _ => ⟨w.heap.size, 0, rfl, Nat.zero_le _, by rw [Lib.bytesWorld_size]; omega, fun j u hu => ?_⟩⟩
  have hj : j < L.length := by have := (List.getElem?_eq_some_iff.1 hu).1; rwa [bs_len] at this
  have := Lib.bytesWorld_cell w 5 (str L) j (by rw [str_size]; exact hj)
  rw [Nat.zero_add, this, str_data]
  rw [bs_get _ _ hj] at hu
  rw [← hu]
  simp [List.getD, hj]
theorem rs5 (t : Nat) : ∃ x : Nat, x < 5 ∧ Int.tmod (t : Int) 5 = (x : Int) ∧ (t : Int) % 5 = (x : Int) ∧ (x : Int) % 256 = (x : Int) ∧ IntKind.u8.wrap (x : Int) = (x : Int) ∧ wrap64 (x : Int) = (x : Int) ∧ IntKind.i64.wrap (x : Int) = (x : Int) ∧ (x : Int) ≤ 9223372036854775807 := by
  have h : t % 5 < 5 := Nat.mod_lt _ (by omega)
  have h1 : Int.tmod (t : Int) 5 = ((t % 5 : Nat) : Int) := by rw [Int.tmod_eq_emod_of_nonneg (by omega)]; omega
  have h2 : (t : Int) % 5 = ((t % 5 : Nat) : Int) := by omega
  refine ⟨t % 5, h, h1, h2, ?_⟩
  clear h1 h2
  generalize t % 5 = x at *
  exact ⟨by omega, wrap8 (by omega), by unfold wrap64; omega, IntWalk.i64_in _ (by omega), by omega⟩
theorem bs_two {j x : Nat} (hj : j < 256) (hx : x < 256) : bs [UInt8.ofNat j, UInt8.ofNat x] = [.int .u8 (j : Int), .int .u8 (x : Int)] := by
  show [Value.int .u8 ((UInt8.ofNat j).toNat : Int), Value.int .u8 ((UInt8.ofNat x).toNat : Int)] = _
  have h1 : (UInt8.ofNat j).toNat = j := by simp; omega
  have h2 : (UInt8.ofNat x).toNat = x := by simp; omega
  rw [h1, h2]
theorem conv_two (w : World) {j x : Nat} (hj : j < 256) (hx : x < 256) : (convert 51 9 (.slice (some ⟨w.heap.size, 0, none⟩) 2 2)).run Tryz.prog (w.alloc (.cells #[.int .u8 (j : Int), .int .u8 (x : Int)] 5)) = .ok (.string (str [UInt8.ofNat j, UInt8.ofNat x])) (w.alloc (.cells #[.int .u8 (j : Int), .int .u8 (x : Int)] 5)) := by
  have h := Bts.lit w 5 [UInt8.ofNat j, UInt8.ofNat x]
  rw [bs_two hj hx] at h
  exact run_str _ _ _ Tryz.underlying51 Tryz.underlying5 Tryz.underlying9 h
end Go.Proofs.YtdkbpjkoiegflaaGreat
/- Rows of bytes, one behind another, in a row that grows: each in a block of its own, all their blocks among X. -/
namespace Go.Proofs.YtdkbpjkoiegflaaGreat
open Go.RowKit

theorem Tryz.infoRowsG : (Tryz.prog.info? 51).map (fun i => (i.zero, i.size, i.bytes)) = some (some (.slice none 0 0), 1, 24) := by kernel_rfl
structure RwG (w : World) (X : Nat → Prop) (RA : Option Addr) (m rc : Nat) (vs : List Value) : Prop where
  own : w.ownsRow 0 51 1 (.slice RA m rc) m vs
  RX : ∀ b, RA.map (·.block) = some b → X b
  el : ∀ i, i < m → ∃ A n c l, vs[i]? = some (.slice A n c) ∧ (∀ b, A.map (·.block) = some b → X b ∧ RA.map (·.block) ≠ some b) ∧ Bts w 0 w.heap.size A n l
theorem RwG.nil (w : World) (X : Nat → Prop) : RwG w X none 0 0 [] := ⟨own_nilrow _ _ _ _, fun b hb => (by cases hb), fun i hi => absurd hi (by omega)⟩
theorem RwG.stay {w w' : World} {X : Nat → Prop} {RA : Option Addr} {m rc : Nat} {vs : List Value} (h : RwG w X RA m rc vs) (hs : Stay X w w') : RwG w' X RA m rc vs :=
  ⟨own_keep h.own fun b hb => hs.2 b (h.RX b hb), h.RX, fun i hi => by
    obtain ⟨A, n, c, l, h1, h2, h3⟩ := h.el i hi
    exact ⟨A, n, c, l, h1, h2, h3.at1 hs.1 fun u hu => hs.2 u (h2 u hu).1⟩⟩
theorem RwG.push {w w' : World} {X : Nat → Prop} {RA RA' : Option Addr} {m rc rc' : Nat} {vs : List Value} (h : RwG w X RA m rc vs) (hX : ∀ x, X x → x < w.heap.size) {A : Option Addr} {n c : Nat} {l : List UInt8} {O : Obj} (hb : Bts w 0 w.heap.size A n l) (hA : ∀ b, A.map (·.block) = some b → ¬ X b ∧ b < w.heap.size)
    (ho : w'.ownsRow 0 51 1 (.slice RA' (m + 1) rc') (m + 1) (vs ++ [.slice A n c])) (hg : (w.alloc O).grownBy w' (RA.map (·.block))) (hl : Lies RA RA' (w.heap.size + 1)) :
    RwG w' (fun x => (X x ∨ A.map (·.block) = some x) ∨ RA'.map (·.block) = some x) RA' (m + 1) rc' (vs ++ [.slice A n c]) := by
  have hs : (w.alloc O).heap.size = w.heap.size + 1 := by simp
  have hkeep : ∀ y, y < w.heap.size → RA.map (·.block) ≠ some y → w'.heap[y]? = w.heap[y]? := fun y hy hne =>
    (hg.block y (by omega) (fun e => hne e.symm)).trans (((Below.refl w.heap.size w).alloc (Nat.le_refl _) O).block y hy)
  have hlen : vs.length = m := by have := h.own.1; omega
  have hsz := hg.size
  have hno : ∀ y, y < w.heap.size → RA.map (·.block) ≠ some y → RA'.map (·.block) ≠ some y := fun y hy hne e => by
    rcases hl y e with e | e
    · exact hne e
    · omega
  refine ⟨ho, fun x hx => .inr hx, fun i hi => ?_⟩
  by_cases e : i = m
  · subst e
    have hR : ∀ b, A.map (·.block) = some b → RA.map (·.block) ≠ some b := fun b hb e => (hA b hb).1 (h.RX b e)
    exact ⟨A, n, c, l, by rw [← hlen, List.getElem?_append_right (Nat.le_refl _), Nat.sub_self]; rfl, fun b hb => ⟨.inl (.inr hb), hno b (hA b hb).2 (hR b hb)⟩, hb.at1 (by omega) fun u hu => hkeep u (hA u hu).2 (hR u hu)⟩
  · obtain ⟨A', n', c', l', h1, h2, h3⟩ := h.el i (by omega)
    exact ⟨A', n', c', l', by rw [List.getElem?_append_left (by omega)]; exact h1, fun b hb => ⟨.inl (.inl (h2 b hb).1), hno b (hX b (h2 b hb).1) (h2 b hb).2⟩, h3.at1 (by omega) fun u hu => hkeep u (hX u (h2 u hu).1) (h2 u hu).2⟩
end Go.Proofs.YtdkbpjkoiegflaaGreat
