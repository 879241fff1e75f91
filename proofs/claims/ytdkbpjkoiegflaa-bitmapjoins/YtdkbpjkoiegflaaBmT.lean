/- What strongroomref10.Get returns. Nothing is assumed. -/
import Derived.Test.YtdkbpjkoiegflaaBmR
namespace Go.Proofs.Ytdkbpjkoiegflaa
open Go.RowKit

theorem bgL_take (b : List UInt8) {m N : Nat} (h : N ≤ m) : (bgL b m).take N = bgL b N := by
  refine List.ext_getElem (by rw [List.length_take, bgL_len, bgL_len]; omega) fun j h1 h2 => ?_
  simp [bgL]
theorem lst_take {w : World} {lo hi n : Nat} {A : Option Addr} {l : List Bool} (h : Lst w lo hi A n (bls l)) {k : Nat} (hk : k ≤ n) : Lst w lo hi A k (bls (l.take k)) := by
  have hl := h.1
  rw [bls_len] at hl
  refine ⟨by rw [bls_len, List.length_take]; omega, fun hn => ?_⟩
  obtain ⟨g, off, e, h1, h2, hc⟩ := h.2 (by omega)
  refine ⟨g, off, e, h1, h2, fun j u hu => hc j u ?_⟩
  have e : bls (l.take k) = (bls l).take k := by simp [bls, List.map_take]
  rw [e, List.getElem?_take] at hu
  split at hu
  · exact hu
  · cases hu
theorem rg_bad {b : List UInt8} {N : Nat} (h : 8 * b.length < N ∨ (7 < 8 * b.length ∧ N + 8 ≤ 8 * b.length)) : bgO b (N : Int) = false := by
  refine bgO_len fun e => ?_
  unfold nby at e
  omega
theorem rg_len {b : List UInt8} {N : Nat} (h1 : ¬ 8 * b.length < N) (h2 : ¬ (7 < 8 * b.length ∧ N + 8 ≤ 8 * b.length)) : b.length = nby N := by
  unfold nby
  omega
theorem rg_yes {b : List UInt8} {N : Nat} (hb : b.length = nby N) (h : ∀ i, i < 8 * b.length - N → bi b (N + i) = false) : bgO b (N : Int) = true :=
  decide_eq_true ⟨by omega, hb, fun i h1 h2 => by
    have h3 : (N : Int).toNat = N := by simp
    rw [h3] at h2
    have := h (i - N) (by omega)
    rwa [show N + (i - N) = i by omega] at this⟩
theorem rg_no {b : List UInt8} {N i : Nat} (hi : i < 8 * b.length - N) (h : bi b (N + i) = true) : bgO b (N : Int) = false :=
  decide_eq_false fun e => by
    have := e.2.2 (N + i) (by omega) (by simp)
    rw [this] at h
    cases h
def BRGet (w : World) (b : List UInt8) (N : Int) (e : Ending) (w' : World) : Prop := ∃ A c, e = .returned (.tuple #[.slice A (bgX b N).length c, .bool (bgO b N)]) ∧ Lst w' 0 w'.heap.size A (bgX b N).length (bls (bgX b N)) ∧ Below w.heap.size w w'
theorem BRGet.no {w w' : World} {b : List UInt8} {N : Int} (h : bgO b N = false) (hb : Below w.heap.size w w') : BRGet w b N (.returned (.tuple #[.slice none 0 0, .bool false])) w' := by
  have e : bgX b N = [] := by unfold bgX; rw [h]; rfl
  refine ⟨none, 0, ?_, ?_, hb⟩
  · rw [e, h]; rfl
  · rw [e]; exact ⟨rfl, fun h => absurd h (by decide)⟩
theorem tl_at {b : List UInt8} {m N j : Nat} (hj : j < m - N) : ((bgL b m).drop N)[j]'(by rw [List.length_drop, bgL_len]; exact hj) = bi b (N + j) := by
  rw [List.getElem_drop]
  simp [bgL]
set_option maxRecDepth 100000 in
set_option maxHeartbeats 16000000 in
theorem brget_c {w : World} {n c : Nat} {A : Option Addr} {b : List UInt8} (h : Bts w 0 w.heap.size A n b) (hn : n ≤ 100000) (N : Int) (hN : -9223372036854775808 ≤ N ∧ N ≤ 9223372036854775807) :
    Calls Try.prog 12 #[.slice A n c, .int .i64 N] w (BRGet w b N) := by
  have hl := h.len
  have HL := hid h
  have HN := hid hn
  have HLE := hid hl
  have hbit := brbits_c (c := c) HL.out HN.out
  obtain ⟨m, hm⟩ : ∃ m, m = 8 * n := ⟨_, rfl⟩
  rw [← hm] at hbit
  have HBIT := hid hbit
  have HM : Hid (m = 8 * b.length ∧ m ≤ 800000) := hid (by omega)
  clear h hn hbit
  rcases Int.lt_or_le N 0 with hneg | hpos
  · have e1 : decide (N < 0) = true := decide_eq_true hneg
    have HG := hid (bgO_neg (b := b) hneg)
    clear hN hl hm HL HN HM HLE
    go_enter Try.func12, Try.ntmps12
    go_wp2_with fail
    refine HBIT.out.mono ?_
    rintro e w1 ⟨A1, c1, rfl, ho1, hb1⟩
    have HB1 := hid hb1
    clear ho1 hb1
    go_wp2
    go_ret2
    exact BRGet.no HG.out HB1.out
  obtain ⟨M, rfl⟩ : ∃ M : Nat, N = (M : Int) := ⟨N.toNat, by omega⟩
  have e1 : decide ((M : Int) < 0) = false := by simp
  clear hN hpos
  by_cases hbig : m < M
  · have e2 : decide ((m : Int) < (M : Int)) = true := by simpa using hbig
    have e2' : decide (m < M) = true := decide_eq_true hbig
    have HG := hid (rg_bad (b := b) (N := M) (.inl (by have := HM.out; omega)))
    clear hl hm HL HN HM HLE hbig
    go_enter Try.func12, Try.ntmps12
    go_wp2_with fail
    refine HBIT.out.mono ?_
    rintro e w1 ⟨A1, c1, rfl, ho1, hb1⟩
    have HB1 := hid hb1
    clear ho1 hb1
    go_wp2
    go_ret2
    exact BRGet.no HG.out HB1.out
  have e2 : decide ((m : Int) < (M : Int)) = false := by simp; omega
  have e2' : decide (m < M) = false := decide_eq_false hbig
  have hM8 : M ≤ 800000 := by have := HM.out; omega
  by_cases hlow : 7 < m ∧ M + 8 ≤ m
  · have e3 : decide ((7 : Int) < (m : Int)) = true := by simp; omega
    have e3' : decide (7 < m) = true := decide_eq_true hlow.1
    have e4 : decide ((M : Int) ≤ wrap64 ((m : Int) - 8)) = true := by have := HM.out; unfold wrap64; simp; omega
    have e5 : wrap64 ((m : Int) - 8) = (m : Int) - 8 := by have := HM.out; unfold wrap64; omega
    have e6 : decide ((M : Int) ≤ (m : Int) - 8) = true := by simp; omega
    have HG := hid (rg_bad (b := b) (N := M) (.inr (by have := HM.out; omega)))
    clear hl hm HL HN HM HLE hbig hlow hM8
    go_enter Try.func12, Try.ntmps12
    go_wp2_with fail
    refine HBIT.out.mono ?_
    rintro e w1 ⟨A1, c1, rfl, ho1, hb1⟩
    have HB1 := hid hb1
    clear ho1 hb1 e4
    go_wp2
    go_ret2
    exact BRGet.no HG.out HB1.out
  have hby := rg_len (b := b) (N := M) (by have := HM.out; omega) (by have := HM.out; omega)
  have HY := hid hby
  have HMm : Hid (M ≤ m) := hid (by omega)
  have HM8 := hid hM8
  clear hbig hM8
  rcases Nat.eq_zero_or_pos m with h0 | h0
  · have hM0 : M = 0 := by have := HMm.out; omega
    have H0 := hid (And.intro h0 hM0)
    clear hlow hby hm hl
    subst h0 hM0
    clear e1 e2 e2'
    go_enter Try.func12, Try.ntmps12
    go_wp2_with fail
    refine HBIT.out.mono ?_
    rintro e w1 ⟨A1, c1, rfl, ho1, hb1⟩
    have HB1 := hid hb1
    have HO1 := hid ho1
    have HG : Hid (bgO b ((0 : Nat) : Int) = true) := hid (rg_yes HY.out (fun i hi => by have := HM.out; omega))
    have HX : Hid (bgX b ((0 : Nat) : Int) = []) := hid (by unfold bgX; rw [HG.out, if_pos rfl]; rfl)
    have HLR : Hid (Lst w1 0 w1.heap.size A1 0 (bls [])) := hid ⟨rfl, fun h => absurd h (by decide)⟩
    clear ho1 hb1
    by_cases hcap : c1 = 0
    · subst hcap
      go_wp2_with fail
      go_loopg [44] 0 (fun kk iv wr => iv = .int .i64 0 ∧ wr = w1)
      case atStart => exact ⟨rfl, rfl⟩
      case round =>
        obtain ⟨rfl, rfl⟩ := hrel
        go_wp2
        go_ret2
        exact ⟨A1, _, by rw [HX.out, HG.out]; rfl, by rw [HX.out]; exact HLR.out, HB1.out⟩
    · go_wp2_with fail
      go_loopg [44] 0 (fun kk iv wr => iv = .int .i64 0 ∧ wr = w1)
      case atStart => exact ⟨rfl, rfl⟩
      case round =>
        obtain ⟨rfl, rfl⟩ := hrel
        go_wp2
        go_ret2
        exact ⟨A1, _, by rw [HX.out, HG.out]; rfl, by rw [HX.out]; exact HLR.out, HB1.out⟩
  · have h7 : 7 < m := by omega
    have e3 : decide ((7 : Int) < (m : Int)) = true := by simp; omega
    have e3' : decide (7 < m) = true := decide_eq_true h7
    have e6 : decide ((M : Int) ≤ wrap64 ((m : Int) - 8)) = false := by
      have e5 : wrap64 ((m : Int) - 8) = (m : Int) - 8 := by have := HM.out; unfold wrap64; omega
      rw [e5]; simp; omega
    have e7 : ((M : Int) == 0) = false := by simp; omega
    have e8 : ¬ (M : Int) = 0 := by omega
    have e9 : ¬ M = 0 := by omega
    have a1 : (0 : Int) ≤ (M : Int) := by omega
    have hmp := h0
    clear h7 h0 hlow hby hm hl
    go_enter Try.func12, Try.ntmps12
    go_wp2_with fail
    refine HBIT.out.mono ?_
    rintro e w1 ⟨A1, c1, rfl, ho1, hb1⟩
    have HB1 := hid hb1
    have HO1 := hid ho1
    have hc1 := own_nc ho1
    have a2 : (M : Int) ≤ (c1 : Int) := by have := HMm.out; omega
    have a3 : (M : Int) ≤ (m : Int) := by have := HMm.out; omega
    have a4 : M ≤ c1 := by have := HMm.out; omega
    have a5 : M ≤ m := HMm.out
    clear hb1
    by_cases hcap : c1 = M
    · subst hcap
      have HLT : Hid (Lst w1 0 w1.heap.size A1 (m - c1) (bls ((bgL b m).drop c1))) := hid (by
        have h1 : m - c1 = 0 := by omega
        have h2 : (bgL b m).drop c1 = [] := List.drop_eq_nil_of_le (by rw [bgL_len]; omega)
        rw [h1, h2]
        exact ⟨rfl, fun h => absurd h (by decide)⟩)
      go_wp2_with fail
      go_loopg [44] ((m - c1)) (fun kk iv wr => ∃ j : Nat, iv = .int .i64 (j : Int) ∧ Hid (kk = (m - c1) - j) ∧ Hid (j ≤ (m - c1)) ∧ Hid (∀ i, i < j → bi b (c1 + i) = false) ∧ wr = w1)
      case atStart => exact ⟨0, rfl, hid rfl, hid (Nat.zero_le _), hid (fun i hi => absurd hi (Nat.not_lt_zero i)), rfl⟩
      case round =>
        obtain ⟨j, rfl, hgk, hj, hF, rfl⟩ := hrel
        rcases Nat.lt_or_ge j ((m - c1)) with hlt | hge
        · exact absurd hlt (by omega)
        · have hjd : j = (m - c1) := by have := hj.out; omega
          have HG : Hid (bgO b ((c1 : Nat) : Int) = true) := hid (rg_yes HY.out (fun i hi => hF.out i (by have := HM.out; omega)))
          have HX : Hid (bgX b ((c1 : Nat) : Int) = bgL b (c1)) := hid (by unfold bgX; rw [HG.out, if_pos rfl]; simp)
          have HLR : Hid (Lst wr 0 wr.heap.size A1 (c1) (bls (bgL b (c1)))) := hid (by
            have := lst_take ((Lst.own HO1.out).wide (Nat.zero_le _) (Nat.le_refl _)) (k := c1) HMm.out
            rwa [bgL_take b HMm.out] at this)
          subst hjd
          have j2 : ¬ (((m - c1) : Nat) : Int) < (((m - c1) : Nat) : Int) := by omega
          have j4 : decide ((m - c1) < (m - c1)) = false := by simp
          clear hge hj hgk
          go_wp2
          go_ret2
          exact ⟨A1, _, by rw [HX.out, bgL_len, HG.out]; rfl, by rw [HX.out, bgL_len]; exact HLR.out, HB1.out⟩
    · obtain ⟨g1, o1, rfl, _, _, _⟩ := (Lst.own ho1).at_ hmp
      have HLT : Hid (Lst w1 0 w1.heap.size (some ⟨g1, o1 + M, none⟩) (m - M) (bls ((bgL b m).drop M))) := hid (lst_drop ((Lst.own HO1.out).wide (Nat.zero_le _) (Nat.le_refl _)) M)
      go_wp2_with fail
      go_loopg [44] ((m - M)) (fun kk iv wr => ∃ j : Nat, iv = .int .i64 (j : Int) ∧ Hid (kk = (m - M) - j) ∧ Hid (j ≤ (m - M)) ∧ Hid (∀ i, i < j → bi b (M + i) = false) ∧ wr = w1)
      case atStart => exact ⟨0, rfl, hid rfl, hid (Nat.zero_le _), hid (fun i hi => absurd hi (Nat.not_lt_zero i)), rfl⟩
      case round =>
        obtain ⟨j, rfl, hgk, hj, hF, rfl⟩ := hrel
        rcases Nat.lt_or_ge j ((m - M)) with hlt | hge
        · have j1 : (0 : Int) ≤ (j : Int) := by omega
          have j2 : (j : Int) < (((m - M) : Nat) : Int) := by omega
          have j3 : decide ((j : Int) < (((m - M) : Nat) : Int)) = true := by simpa using j2
          have j4 : decide (j < (m - M)) = true := decide_eq_true hlt
          have wj : wrap64 ((j : Int) + 1) = ((j + 1 : Nat) : Int) := by have := HM.out; unfold wrap64; omega
          have HJ := hid hlt
          have hdl : ((bgL b (m)).drop (M)).length = (m - M) := by rw [List.length_drop, bgL_len]
          obtain ⟨g2, o2, hA2, _, _, hcell⟩ := lst_b HLT.out (by rw [hdl]; exact hlt)
          rw [tl_at hlt] at hcell
          injection hA2 with hA2
          injection hA2 with hA3 hA4 _
          subst hA3 hA4
          have HBI : Hid (j < 8 * b.length - M) := hid (by have := HM.out; omega)
          cases hx : bi b (M + j) with
          | true =>
            rw [hx] at hcell
            have HG : Hid (bgO b ((M : Nat) : Int) = false) := hid (rg_no HBI.out hx)
            clear hx hlt hdl
            go_wp2
            go_ret2
            exact BRGet.no HG.out HB1.out
          | false =>
            rw [hx] at hcell
            have HF2 : Hid (∀ i, i < j + 1 → bi b (M + i) = false) := hid (fun i hi => by
              rcases Nat.lt_or_ge i j with h | h
              · exact hF.out i h
              · have : i = j := by omega
                rw [this]; exact hx)
            clear hx hlt hdl
            go_wp2_with fail
            go_roundg ((m - M) - (j + 1))
            case measure => exact meas_j hgk.out HJ.out
            case rel => exact ⟨j + 1, by first | rfl | rw [wj], hid rfl, hid HJ.out, HF2, rfl⟩
        · have hjd : j = (m - M) := by have := hj.out; omega
          have HG : Hid (bgO b ((M : Nat) : Int) = true) := hid (rg_yes HY.out (fun i hi => hF.out i (by have := HM.out; omega)))
          have HX : Hid (bgX b ((M : Nat) : Int) = bgL b (M)) := hid (by unfold bgX; rw [HG.out, if_pos rfl]; simp)
          have HLR : Hid (Lst wr 0 wr.heap.size (some ⟨g1, o1, none⟩) (M) (bls (bgL b (M)))) := hid (by
            have := lst_take ((Lst.own HO1.out).wide (Nat.zero_le _) (Nat.le_refl _)) (k := M) HMm.out
            rwa [bgL_take b HMm.out] at this)
          subst hjd
          have j2 : ¬ (((m - M) : Nat) : Int) < (((m - M) : Nat) : Int) := by omega
          have j4 : decide ((m - M) < (m - M)) = false := by simp
          clear hge hj hgk
          go_wp2
          go_ret2
          exact ⟨some ⟨g1, o1, none⟩, _, by rw [HX.out, bgL_len, HG.out]; rfl, by rw [HX.out, bgL_len]; exact HLR.out, HB1.out⟩
end Go.Proofs.Ytdkbpjkoiegflaa
