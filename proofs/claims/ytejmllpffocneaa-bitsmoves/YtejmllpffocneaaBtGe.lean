/- What bits.Get returns. Nothing is assumed. -/
import Derived.Test.YtejmllpffocneaaBtRh
import Derived.Test.YtejmllpffocneaaBtNa
namespace Go.Proofs.Ytejmllpffocneaa
open Go.RowKit

/-- What Get answers, as it lies. -/
def TGet (w : World) (b : List UInt8) (n : Int) (e : Ending) (w' : World) : Prop :=
  ∃ (l : List Int) (ok : Bool) (A : Option Addr) (c : Nat), e = .returned (.tuple #[.slice A l.length c, .bool ok]) ∧ BtG b n l ok ∧ Lst w' 0 w'.heap.size A l.length (ics l) ∧ l.length ≤ c ∧ Below w.heap.size w w'
theorem TGet.no {w w' : World} {b : List UInt8} {n : Int} (h : BtG b n [] false) (hb : Below w.heap.size w w') : TGet w b n (.returned (.tuple #[.slice none 0 0, .bool false])) w' :=
  ⟨[], false, none, 0, rfl, h, ⟨rfl, fun h => absurd h (by decide)⟩, Nat.le_refl _, hb⟩
theorem ntr_map (b : List UInt8) (x : Int) (n W : Nat) : ((List.range n).map fun i => wrap64 (x + ntr (bgL b (n * W)) W i)) = (List.range n).map fun i => wrap64 (x + nbd b W i) :=
  List.map_congr_left fun i hi => by rw [ntr_bgL b (List.mem_range.1 hi)]
set_option maxRecDepth 100000 in
set_option maxHeartbeats 16000000 in
theorem btget_c {w : World} {m c : Nat} {A : Option Addr} {b : List UInt8} (h : Bts w 0 w.heap.size A m b) (hmc : m ≤ c) (hm : m ≤ 100000) (n : Int) (hn : -9223372036854775808 ≤ n ∧ n ≤ 9223372036854775807) :
    Calls Try.prog 8 #[.slice A m c, .int .i64 n] w (TGet w b n) := by
  have hl := h.len
  have HR := hid h
  have HM := hid hm
  have HMC := hid hmc
  have HL := hid hl
  clear h hm hmc hl
  by_cases hout : n < 0 ∨ 256 < n
  · have HG := hid (BtG.away (b := b) hout)
    rcases Int.lt_or_le n 0 with hneg | hpos
    · have e1 : decide (n < 0) = true := decide_eq_true hneg
      clear hn hout
      go_enter Try.func8, Try.ntmps8
      go_wp2
      go_ret2
      exact TGet.no HG.out (Below.refl _ _)
    · have e1 : decide (n < 0) = false := decide_eq_false (by omega)
      have e2 : decide (256 < n) = true := decide_eq_true (by omega)
      clear hn hout
      go_enter Try.func8, Try.ntmps8
      go_wp2
      go_ret2
      exact TGet.no HG.out (Below.refl _ _)
  obtain ⟨N, rfl⟩ : ∃ N : Nat, n = (N : Int) := ⟨n.toNat, by omega⟩
  have HN : Hid (N ≤ 256) := hid (by omega)
  have e1 : decide ((N : Int) < 0) = false := by simp
  have e2 : decide ((256 : Int) < (N : Int)) = false := decide_eq_false (by omega)
  have e3 : decide (256 < N) = false := decide_eq_false (by omega)
  clear hn hout
  rcases Nat.eq_zero_or_pos N with h0 | h0
  · subst h0
    have HG := hid (BtG.zero b)
    rw [HL.out] at HG
    have hc : ((m : Int) == 0) = decide (m = 0) := by by_cases hm0 : m = 0 <;> simp [hm0]
    clear e1 e2 e3
    go_enter Try.func8, Try.ntmps8
    go_wp2
    go_ret2
    refine ⟨[], _, none, 0, ?_, HG.out, ⟨rfl, fun h => absurd h (by decide)⟩, Nat.le_refl _, Below.refl _ _⟩
    rfl
  have n0 : ((N : Int) == 0) = false := by simp; omega
  have n1 : ¬ (N : Int) = 0 := by omega
  have H0 := hid h0
  clear h0
  go_enter Try.func8, Try.ntmps8
  go_wp2_with fail
  clear e1 e2 e3 n0 n1
  refine (bthead_c HR.out HMC.out HM.out).mono ?_
  rintro e w1 ⟨hb1, ⟨hno, rfl⟩ | ⟨hO, B, d, rfl, hBt⟩⟩
  · have HG := hid (BtG.no1 (n := (N : Int)) (by have := H0.out; omega) hno)
    have HB1 := hid hb1
    clear hb1 hno
    go_wp2
    go_ret2
    exact TGet.no HG.out HB1.out
  have HO := hid hO
  have HLR := hid (hL_r b)
  have HW : Hid (hW b ≤ 64) := hid hO.2.2
  have HB1 := hid hb1
  have HBl : Hid ((hB b).length ≤ 100000) := hid (by unfold hB; rw [List.length_drop, HL.out]; have := HM.out; omega)
  have HBT := hid ((hBt.below hb1 (Nat.le_refl _)).wide (Nat.le_refl _) hb1.size)
  clear hO hb1 hBt
  obtain ⟨x, hx⟩ : ∃ x, hL b = x := ⟨_, rfl⟩
  obtain ⟨W, hW⟩ : ∃ W, hW b = W := ⟨_, rfl⟩
  have HX := hid hx
  have HWE := hid hW
  rw [hx] at HLR ⊢
  rw [hW] at HW ⊢
  obtain ⟨M, hM⟩ : ∃ M, N * W = M := ⟨_, rfl⟩
  have HME := hid hM
  have HM6 : Hid (M ≤ 16384) := hid (by rw [← hM]; exact Nat.le_trans (Nat.mul_le_mul HN.out HW.out) (by decide))
  have wM : wrap64 ((N : Int) * (W : Int)) = (M : Int) := by rw [← Int.natCast_mul, hM]; exact w64_nat (by have := HM6.out; omega)
  have HBG := hid (bget_c (c := d) HBT.out HBl.out (M : Int) (by have := HM6.out; omega))
  have HGN : Hid (bgO (hB b) (M : Int) = false → BtG b (N : Int) [] false) := hid (fun h => BtG.no2 H0.out (by rw [HWE.out, HME.out]; exact h))
  have HNO3 : Hid (∀ i, i < N → room x < nbd (hB b) W i → BtG b (N : Int) [] false) := hid (fun i hi h => BtG.no3 hi (by rw [HX.out, HWE.out]; exact h))
  have HNO4 : Hid (mnL (outL b N) ≠ x ∨ wdL (outL b N) ≠ W → BtG b (N : Int) [] false) := hid (fun h => BtG.no4 H0.out (by rw [HX.out, HWE.out]; exact h))
  have HYES : Hid (bgO (hB b) (M : Int) = true → (∀ i, i < N → nbd (hB b) W i ≤ room x) → mnL (outL b N) = x → wdL (outL b N) = W → BtG b (N : Int) (outL b N) true) := hid (fun h1 h2 h3 h4 =>
    BtG.yes H0.out HN.out HO.out (by rw [HWE.out, HME.out]; exact h1) (by rw [HX.out, HWE.out]; exact h2) (by rw [HX.out]; exact h3) (by rw [HWE.out]; exact h4))
  have HOUT : Hid (outL b N = (List.range N).map fun i => wrap64 (x + nbd (hB b) W i)) := hid (by unfold outL; rw [HX.out, HWE.out])
  clear hx hW hM HBT HBl
  generalize hB b = bb at *
  go_wp2_with fail
  refine HBG.out.mono ?_
  rintro e w2 ⟨A2, c2, rfl, ho2, hb2⟩
  have HB2 := hid (HB1.out.trans (hb2.mono HB1.out.size))
  clear HBG wM
  cases hg : bgO bb (M : Int) with
  | false =>
    have HG := hid (HGN.out hg)
    clear hg ho2 hb2
    go_wp2
    go_ret2
    exact TGet.no HG.out HB2.out
  | true =>
    have hX2 : bgX bb (M : Int) = bgL bb M := by unfold bgX; rw [hg, if_pos rfl]; simp
    rw [hX2, bgL_len] at ho2 ⊢
    obtain ⟨A2', c2', e', hMc⟩ := own_form ho2
    injection e' with e1 _ e2
    subst e1 e2
    have HNU := hid (btnums_c ((Lst.own ho2).wide (Nat.zero_le _) (Nat.le_refl _)) hMc HME.out.symm (by have := HN.out; omega) HW.out HLR.out)
    have HYES2 := hid (HYES.out hg)
    clear hg hX2 ho2 hb2 hMc HGN HYES
    go_wp2_with fail
    refine HNU.out.mono ?_
    clear HNU
    rintro e w3 (⟨⟨i, hi, hr⟩, rfl, hb3⟩ | ⟨hS, rfl, ho3, hb3⟩)
    · have HG := hid (HNO3.out i hi (by rw [← HME.out, ntr_bgL _ hi] at hr; exact hr))
      have HB3 := hid (HB2.out.trans (hb3.mono HB2.out.size))
      clear hi hr hb3
      go_wp2
      go_ret2
      exact TGet.no HG.out HB3.out
    · have HB3 := hid (HB2.out.trans (hb3.mono HB2.out.size))
      have hS2 : ∀ i, i < N → nbd bb W i ≤ room x := fun i hi => by
        have := hS i hi
        rwa [← HME.out, ntr_bgL _ hi] at this
      rw [← HME.out, ntr_map, ← HOUT.out] at ho3
      have HYES3 := hid (HYES2.out hS2)
      have HL64 := hid (outL_r b N)
      have HLL := hid (outL_len b N)
      generalize outL b N = l at *
      have HR3 := hid ((Lst.own ho3).wide (Nat.zero_le _) (Nat.le_refl _))
      clear hb3 hS hS2 ho3 HYES2 HOUT HNO3
      have HNE : Hid (l ≠ []) := hid (by rintro rfl; have := HLL.out; have := H0.out; simp at *; omega)
      go_wp2_with fail
      refine (min_c HR3.out H0.out (by have := HN.out; omega)).mono ?_
      rintro e w4 ⟨rfl, rfl⟩
      by_cases hmn : mnL l = x
      · have HMN := hid hmn
        have hbx : ((mnL l : Int) != x) = false := by simp [hmn]
        rw [hmn]
        have hxx : ((x : Int) != x) = false := by simp
        clear hmn hbx
        go_wp2_with fail
        refine (max_c HR3.out H0.out (by have := HN.out; omega)).mono ?_
        rintro e w4 ⟨rfl, rfl⟩
        have hle : x ≤ mxL l := by rw [← HMN.out]; exact mnL_le (mxL_in HNE.out)
        have HWO := hid (widthOf_c w3 (HL64.out _ (mxL_in HNE.out)) HLR.out hle)
        have HWD : Hid (wdL l = Lib.bitLen (di (mxL l) x)) := hid (by unfold wdL; rw [HMN.out])
        clear hle hxx
        go_wp2_with fail
        refine HWO.out.mono ?_
        rintro e w4 ⟨rfl, rfl⟩
        clear HWO
        rw [← HWD.out]
        by_cases hwd : wdL l = W
        · have HG := hid (HYES3.out HMN.out hwd)
          have hn2 : ((W : Int) != (W : Int)) = false := by simp
          rw [hwd]
          clear hwd HWD
          go_wp2
          go_ret2
          exact ⟨l, true, some ⟨w2.heap.size, 0, none⟩, N, by rw [HLL.out]; rfl, HG.out, by rw [HLL.out]; exact HR3.out, by rw [HLL.out]; exact Nat.le_refl _, HB3.out⟩
        · have HG := hid (HNO4.out (.inr hwd))
          have hn2 : (((wdL l : Nat) : Int) != (W : Int)) = true := by simp; omega
          have hn3 : ¬ ((wdL l : Nat) : Int) = (W : Int) := by omega
          clear HWD
          go_wp2
          go_ret2
          exact TGet.no HG.out HB3.out
      · have HG := hid (HNO4.out (.inl hmn))
        have hbx : ((mnL l : Int) != x) = true := by simp [hmn]
        go_wp2
        go_ret2
        exact TGet.no HG.out HB3.out
end Go.Proofs.Ytejmllpffocneaa
