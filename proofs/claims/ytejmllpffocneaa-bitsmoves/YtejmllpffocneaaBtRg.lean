/- What strongroomref12.Get returns. Nothing is assumed. -/
import Derived.Test.YtejmllpffocneaaBtGe
import Derived.Test.YtejmllpffocneaaBtRp
namespace Go.Proofs.Ytejmllpffocneaa
open Go.RowKit

theorem bt_str {w : World} {lo hi n c : Nat} {A : Option Addr} {l : List UInt8} (h : Bts w lo hi A n l) : (convert 24 9 (.slice A n c)).run Try.prog w = .ok (.string (str l)) w :=
  run_str (P := Try.prog) (c := c) 24 9 5 Try.underlying24 Try.underlying5 Try.underlying9 h
theorem hL_unfold (b : List UInt8) : unfold_ (rd b).1 = hL b := rfl
/-- A bit's worth as uint64 has it. -/
def uP (j : Nat) : Nat := 2 ^ j % 18446744073709551616
theorem uP_zero : (1 : Int) = ((uP 0 : Nat) : Int) := by decide
theorem uP_small {j : Nat} (h : j < 64) : uP j = 2 ^ j := Nat.mod_eq_of_lt (Nat.lt_of_lt_of_le (Nat.pow_lt_pow_right (by decide) h) (by decide))
theorem uP_add {S j : Nat} (h : S + 2 ^ j < 18446744073709551616) (hj : j < 64) : IntKind.u64.wrap ((S : Int) + (uP j : Int)) = ((S + 2 ^ j : Nat) : Int) := by
  rw [uP_small hj, ← Int.natCast_add]
  generalize 2 ^ j = p at *
  exact IntWalk.u64_in _ (by omega)
theorem add_w {a j : Nat} (h : a + j < 16384) : wrap64 ((a : Int) + (j : Int)) = ((a + j : Nat) : Int) := by
  unfold wrap64
  omega
theorem uP_succ (j : Nat) : IntKind.u64.wrap ((uP j : Int) * 2) = ((uP (j + 1) : Nat) : Int) := by
  unfold uP
  rw [IntKind.wrap_u64, Nat.pow_succ]
  omega
theorem psb_sum {f : Nat → Bool} {j : Nat} (h : j < 64) : psb f j + 2 ^ j < 18446744073709551616 := by
  have h1 := psb_lt f j
  have h2 : 2 ^ (j + 1) ≤ 2 ^ 64 := Nat.pow_le_pow_right (by decide) h
  rw [Nat.pow_succ] at h2
  omega
set_option maxRecDepth 100000 in
set_option maxHeartbeats 16000000 in
theorem rbtget_c {w : World} {m c : Nat} {A : Option Addr} {b : List UInt8} (h : Bts w 0 w.heap.size A m b) (hmc : m ≤ c) (hm : m ≤ 10000) (n : Int) (hn : -9223372036854775808 ≤ n ∧ n ≤ 9223372036854775807) :
    Calls Try.prog 11 #[.slice A m c, .int .i64 n] w (TGet w b n) := by
  have hl := h.len
  have HR := hid h
  have HM := hid hm
  have HMC := hid hmc
  have HL := hid hl
  clear h hm hmc hl
  by_cases hout : n < 0 ∨ 256 < n
  · have HG := hid (BtG.away (b := b) hout)
    rcases Int.lt_or_le n 0 with hneg | hpos
    · have e1 : decide (n < 0) = true := decide_eq_true hneg
      clear hn hout
      go_enter Try.func11, Try.ntmps11
      go_wp2
      go_ret2
      exact TGet.no HG.out (Below.refl _ _)
    · have e1 : decide (n < 0) = false := decide_eq_false (by omega)
      have e2 : decide (256 < n) = true := decide_eq_true (by omega)
      clear hn hout
      go_enter Try.func11, Try.ntmps11
      go_wp2
      go_ret2
      exact TGet.no HG.out (Below.refl _ _)
  obtain ⟨N, rfl⟩ : ∃ N : Nat, n = (N : Int) := ⟨n.toNat, by omega⟩
  have HN : Hid (N ≤ 256) := hid (by omega)
  have e1 : decide ((N : Int) < 0) = false := by simp
  have e2 : decide ((256 : Int) < (N : Int)) = false := decide_eq_false (by omega)
  have e3 : decide (256 < N) = false := decide_eq_false (by omega)
  clear hn hout
  rcases Nat.eq_zero_or_pos N with h0 | h0
  · subst h0
    have HG := hid (BtG.zero b)
    rw [HL.out] at HG
    have hc : ((m : Int) == 0) = decide (m = 0) := by by_cases hm0 : m = 0 <;> simp [hm0]
    clear e1 e2 e3
    go_enter Try.func11, Try.ntmps11
    go_wp2
    go_ret2
    refine ⟨[], _, none, 0, ?_, HG.out, ⟨rfl, fun h => absurd h (by decide)⟩, Nat.le_refl _, Below.refl _ _⟩
    rfl
  have n0 : ((N : Int) == 0) = false := by simp; omega
  have n1 : ¬ (N : Int) = 0 := by omega
  have H0 := hid h0
  have hread := refRead_c A m c b w 0 w.heap.size HR.out (by have := HM.out; omega)
  have HK := hid (rd_le b)
  have HNOH := hid (fun h => BtG.no1 (b := b) (n := (N : Int)) (by omega) h)
  have HOE : Hid (hO b ↔ (rd b).2 ≠ 0 ∧ (rd b).2 < b.length ∧ hW b ≤ 64) := hid Iff.rfl
  have HWB : Hid (hW b = (b[(rd b).2]?.getD 0).toNat) := hid rfl
  have HBB : Hid (hB b = b.drop ((rd b).2 + 1)) := hid rfl
  obtain ⟨k, hk⟩ : ∃ k, (rd b).2 = k := ⟨_, rfl⟩
  have HUL := hid (rd_lt b)
  have HUX := hid (hL_unfold b)
  obtain ⟨u, hu⟩ : ∃ u, (rd b).1 = u := ⟨_, rfl⟩
  rw [hk] at hread HK HOE HWB HBB
  rw [hu] at hread HUL HUX
  clear h0 hk hu
  go_enter Try.func11, Try.ntmps11
  go_wp2_with fail
  refine hread.mono ?_
  rintro e w1 ⟨rfl, rfl⟩
  clear hread e1 e2 e3 n0 n1
  rename World => w
  by_cases hk0 : k = 0
  · subst hk0
    have HG := hid (HNOH.out (fun h => (HOE.out.1 h).1 rfl))
    go_wp2
    go_ret2
    exact TGet.no HG.out (Below.refl _ _)
  have k0 : ((k : Int) == 0) = false := by simp; omega
  have k1 : ¬ (k : Int) = 0 := by omega
  by_cases hkm : k = m
  · subst hkm
    have HG := hid (HNOH.out (fun h => by have := (HOE.out.1 h).2.1; rw [HL.out] at this; omega))
    have k2 : ((k : Int) == (k : Int)) = true := by simp
    go_wp2
    go_ret2
    exact TGet.no HG.out (Below.refl _ _)
  have k2 : ((k : Int) == (m : Int)) = false := by simp; omega
  have k3 : ¬ (k : Int) = (m : Int) := by omega
  have hlt : k < b.length := by have := HK.out; have := HL.out; omega
  obtain ⟨g, off, rfl, _, _, hcell⟩ := HR.out.at_ (k := k) (by rw [← HL.out]; exact hlt)
  have k4 : (k : Int) < (m : Int) := by have := HL.out; omega
  have k5 : (0 : Int) ≤ (k : Int) := by omega
  have hWx : hW b = b[k].toNat := by rw [HWB.out, List.getElem?_eq_getElem hlt]; rfl
  have HKL : Hid (k + 1 ≤ m) := hid (by have := HL.out; omega)
  generalize b[k] = y at hcell hWx
  have hy256 : (y.toNat : Int) < 256 := by have := y.toNat_lt; omega
  have y0 : (0 : Int) ≤ (y.toNat : Int) := by omega
  have HWX := hid hWx
  have HK0 := hid hk0
  have HKM := hid hlt
  clear hWx hk0 hkm hlt HWB
  rcases Nat.lt_or_ge 64 y.toNat with hbig | hsm
  · have d1 : decide ((64 : Int) < (y.toNat : Int)) = true := decide_eq_true (by omega)
    have d2 : (64 : Int) < (y.toNat : Int) := by omega
    have d3 : decide (64 < y.toNat) = true := decide_eq_true (by omega)
    have HG := hid (HNOH.out (fun h => by have := (HOE.out.1 h).2.2; rw [HWX.out] at this; omega))
    clear hbig
    go_wp2
    go_ret2
    exact TGet.no HG.out (Below.refl _ _)
  have d1 : decide ((64 : Int) < (y.toNat : Int)) = false := decide_eq_false (by omega)
  have d2 : ¬ (64 : Int) < (y.toNat : Int) := by omega
  have d3 : decide (64 < y.toNat) = false := decide_eq_false (by omega)
  have wy : IntKind.i64.wrap (y.toNat : Int) = (y.toNat : Int) := IntWalk.i64_in _ (by omega)
  have wk : wrap64 ((k : Int) + 1) = ((k + 1 : Nat) : Int) := w64_nat (m := k + 1) (by have := HKL.out; have := HM.out; omega)
  have q1 : (0 : Int) ≤ (k : Int) + 1 := by omega
  have q2 : (k : Int) + 1 ≤ (m : Int) := by have := HKL.out; omega
  have hBl : (hB b).length = m - (k + 1) := by rw [HBB.out, List.length_drop, HL.out]
  have HBl := hid hBl
  have HW : Hid (hW b = y.toNat ∧ hW b ≤ 64) := hid ⟨HWX.out, by rw [HWX.out]; exact hsm⟩
  clear hsm hBl
  go_wp2_with (refine wpList_cutUb rfl _ _ rfl rfl rfl (by first | rfl | exact wk) HKL.out HMC.out HR.out ?_)
  intro A1 hb1
  rw [← HBB.out] at hb1
  clear d1 d2 d3 wk q1 q2 k0 k1 k2 k3 k4 k5
  obtain ⟨q, hq⟩ : ∃ q, m - (k + 1) = q := ⟨_, rfl⟩
  rw [hq] at hb1 HBl ⊢
  have HQ : Hid (q ≤ 10000) := hid (by have := HM.out; omega)
  clear hq
  go_wp2_with fail
  refine (brbits_c hb1 (by have := HQ.out; omega)).mono ?_
  rintro e w1 ⟨A2, c2, rfl, ho1, hbe1⟩
  have HB1 := hid hbe1
  have HALL := hid ((Lst.own ho1).wide (Nat.zero_le _) (Nat.le_refl _))
  clear ho1 hbe1 hb1
  have HOH : Hid (hO b) := hid (HOE.out.2 ⟨HK0.out, HKM.out, HW.out.2⟩)
  obtain ⟨W, hW⟩ : ∃ W, y.toNat = W := ⟨_, rfl⟩
  rw [hW] at HW ⊢
  have HWY := hid hW
  have HW64 : Hid (W ≤ 64) := hid (by rw [← HW.out.1]; exact HW.out.2)
  obtain ⟨M, hM⟩ : ∃ M, N * W = M := ⟨_, rfl⟩
  have HME := hid hM
  have HM6 : Hid (M ≤ 16384) := hid (by rw [← hM]; exact Nat.le_trans (Nat.mul_le_mul HN.out HW64.out) (by decide))
  have wM : wrap64 ((N : Int) * (W : Int)) = (M : Int) := by rw [← Int.natCast_mul, hM]; exact w64_nat (by have := HM6.out; omega)
  have HNO2 : Hid (8 * q < M → BtG b (N : Int) [] false) := hid (fun h => BtG.no2' H0.out (by rw [HW.out.1, HBl.out, hM]; exact h))
  have HNO5 := hid (fun h => BtG.no5 (b := b) (n := N) h)
  have HYES5 := hid (fun h => BtG.yes5 (b := b) HN.out h)
  have HSUCC : Hid (∀ i, outL b (i + 1) = outL b i ++ [wrap64 (hL b + nbd (hB b) W i)]) := hid (fun i => by rw [outL_succ, HW.out.1])
  have HOLR := hid (outL_r b N)
  have HOLL := hid (outL_len b)
  have HO0 : Hid (outL b 0 = []) := hid rfl
  have HXR := hid (hL_r b)
  obtain ⟨x, hx⟩ : ∃ x, hL b = x := ⟨_, rfl⟩
  rw [hx] at HUX HSUCC HXR
  clear hx hW hM
  generalize hB b = bb at *
  by_cases hsh : 8 * q < M
  · have s1 : decide (((8 * q : Nat) : Int) < (M : Int)) = true := decide_eq_true (by omega)
    have s2 : decide (8 * q < M) = true := decide_eq_true hsh
    have HG := hid (HNO2.out hsh)
    have s3 : decide ((8 : Int) * (q : Int) < (M : Int)) = true := decide_eq_true (by omega)
    clear hsh
    go_wp2
    go_ret2
    exact TGet.no HG.out HB1.out
  have s1 : decide (((8 * q : Nat) : Int) < (M : Int)) = false := decide_eq_false (by omega)
  have s2 : decide (8 * q < M) = false := decide_eq_false hsh
  have s3 : decide ((8 : Int) * (q : Int) < (M : Int)) = false := decide_eq_false (by omega)
  have HSH : Hid (M ≤ 8 * q) := hid (by omega)
  clear hsh HNO2
  go_wp2_with fail
  clear s1 s2 s3 wM
  go_loopg [10, 11] N (fun kk ov iv wr => ∃ (i : Nat) (B : Option Addr) (d : Nat), ov = .slice B i d ∧ iv = .int .i64 (i : Int) ∧ Hid (kk = N - i) ∧ Hid (i ≤ N) ∧ Hid (wr.ownsRow w1.heap.size 3 1 (.slice B i d) i (ics (outL b i))) ∧ Hid (Below w1.heap.size w1 wr))
  case atStart => exact ⟨0, none, 0, rfl, rfl, hid rfl, hid (Nat.zero_le _), hid (by rw [HO0.out]; exact own_nilrow _ _ _ _), hid (Below.refl _ _)⟩
  case round =>
  obtain ⟨i, B, d, rfl, rfl, hgk, hi, hO, hB⟩ := hrel
  rename World => wr
  rcases Nat.lt_or_ge i N with hlt | hge
  · have i1 : (i : Int) < (N : Int) := by omega
    have i2 : decide ((i : Int) < (N : Int)) = true := by simpa using hlt
    have wi : wrap64 ((i : Int) + 1) = ((i + 1 : Nat) : Int) := by have := HN.out; exact w64_nat (m := i + 1) (by omega)
    have HI := hid hlt
    have hA : (i + 1) * W ≤ M := by rw [← HME.out]; exact Nat.mul_le_mul_right W hlt
    rw [Nat.succ_mul] at hA
    have HSU := hid (HSUCC.out i)
    have HNB : Hid (nbd bb W i = psb (fun j => bi bb (i * W + j)) W) := hid rfl
    obtain ⟨a, ha⟩ : ∃ a, i * W = a := ⟨_, rfl⟩
    rw [ha] at hA HNB
    have eA : wrap64 ((i : Int) * (W : Int)) = (a : Int) := by rw [← Int.natCast_mul, ha]; exact w64_nat (by have := HM6.out; omega)
    have HA := hid hA
    have HA6 : Hid (a + W ≤ 16384) := hid (Nat.le_trans hA HM6.out)
    have HAL := hid (HALL.out.below hB.out (Nat.le_refl _))
    clear hlt ha hA
    go_wp2_with fail
    clear i1 i2
    go_loopg [12, 13, 14] W (fun k2 dv uv jv wx => ∃ (j S : Nat), dv = .int .u64 (S : Int) ∧ uv = .int .u64 (uP j : Int) ∧ jv = .int .i64 (j : Int) ∧ Hid (k2 = W - j) ∧ Hid (j ≤ W) ∧ Hid (psb (fun j => bi bb (a + j)) j = S) ∧ wx = wr)
    case atStart => exact ⟨0, 0, rfl, congrArg (Value.int .u64) uP_zero, rfl, hid rfl, hid (Nat.zero_le _), hid rfl, rfl⟩
    case round =>
    obtain ⟨j, S, rfl, rfl, rfl, hgk2, hj, hS, rfl⟩ := hrel
    rename World => wr
    rcases Nat.lt_or_ge j W with hlt | hge
    · have j1 : (j : Int) < (W : Int) := by omega
      have j2 : decide ((j : Int) < (W : Int)) = true := by simpa using hlt
      have wj : wrap64 ((j : Int) + 1) = ((j + 1 : Nat) : Int) := by have := HW64.out; exact w64_nat (m := j + 1) (by omega)
      have haj : a + j < 8 * q := Nat.lt_of_lt_of_le (Nat.add_lt_add_left hlt a) (Nat.le_trans HA.out HSH.out)
      have eB := add_w (Nat.lt_of_lt_of_le (Nat.add_lt_add_left hlt a) HA6.out)
      obtain ⟨g2, o2, rfl, _, _, hcell2⟩ := lst_b HAL.out (k := a + j) (by rw [bgL_len]; exact haj)
      have HX2 : Hid ((bgL bb (8 * q))[a + j]'(by rw [bgL_len]; exact haj) = bi bb (a + j)) := hid (by simp [bgL])
      generalize (bgL bb (8 * q))[a + j]'(by rw [bgL_len]; exact haj) = y2 at hcell2 HX2
      have p1 : (0 : Int) ≤ (a : Int) + (j : Int) := Int.add_nonneg (Int.natCast_nonneg a) (Int.natCast_nonneg j)
      have p2 : (a : Int) + (j : Int) < 8 * (q : Int) := by exact_mod_cast haj
      have p3 : a + j < 8 * q := haj
      have hj64 : j < 64 := Nat.lt_of_lt_of_le hlt HW64.out
      have wu := uP_succ j
      have hsum := psb_sum (f := fun j => bi bb (a + j)) hj64
      rw [hS.out] at hsum
      have ws := uP_add hsum hj64
      have HJ := hid hlt
      clear hlt haj hj64 hsum
      cases y2 with
      | true =>
        have HS2 : Hid (psb (fun j => bi bb (a + j)) (j + 1) = S + 2 ^ j) := hid (by rw [psb, hS.out, ← HX2.out]; simp)
        go_wp2_with fail
        go_roundg (W - (j + 1))
        case measure => exact meas_j hgk2.out HJ.out
        case rel => exact ⟨j + 1, S + 2 ^ j, by first | rfl | rw [ws], by first | rfl | rw [wu], by first | rfl | rw [wj], hid rfl, hid HJ.out, HS2, rfl⟩
      | false =>
        have HS2 : Hid (psb (fun j => bi bb (a + j)) (j + 1) = S) := hid (by rw [psb, hS.out, ← HX2.out]; simp)
        clear ws
        go_wp2_with fail
        go_roundg (W - (j + 1))
        case measure => exact meas_j hgk2.out HJ.out
        case rel => exact ⟨j + 1, S, rfl, by first | rfl | rw [wu], by first | rfl | rw [wj], hid rfl, hid HJ.out, HS2, rfl⟩
    · have hjn : W = j := by have := hj.out; omega
      subst hjn
      have j1 : ¬ (W : Int) < (W : Int) := by omega
      have HSN : Hid (nbd bb W i = S) := hid (by rw [HNB.out]; exact hS.out)
      have hV : wrap64 (IntKind.u64.wrap (IntKind.u64.wrap x + (S : Int))) = wrap64 (x + (S : Int)) := num_w x S
      have HV : Hid (outL b (i + 1) = outL b i ++ [wrap64 (x + (S : Int))]) := hid (by rw [HSU.out, HSN.out])
      have HCAP : Hid (i + 1 ≤ 1000) := hid (by have := HI.out; have := HN.out; omega)
      clear hge hj hgk2 hS
      go_wp2_with fail
      refine (refUnfolded_c u _ HUL.out).mono ?_
      rintro e w3 ⟨rfl, rfl⟩
      rw [HUX.out]
      go_wp2_with (at_builtin; refine wpList_app1 _ rfl _ _ 22 _ rfl w1.heap.size 3 (.int .i64 0) 8 Try.underlying22 Try.infoI_ rfl _ _ _ _ rfl hO.out _ rfl rfl (by have := HCAP.out; omega) (by have := HCAP.out; unfold maxLen; omega) hB.out.size ?_)
      intro A5 c5 w5 hc5 ho5 hg5 hb5 hz5
      have HO5 : Hid (w5.ownsRow w1.heap.size 3 1 (.slice A5 (i + 1) c5) (i + 1) (ics (outL b (i + 1)))) := hid (by
        rw [HV.out, ics_app]
        first | exact ho5 | (rw [← hV]; exact ho5))
      have HB5 := hid (hB.out.trans hb5)
      clear hc5 ho5 hg5 hb5 hz5 hV
      go_wp2_with fail
      go_roundg (N - (i + 1))
      case measure => exact meas_j hgk.out HI.out
      case rel => exact ⟨i + 1, A5, c5, rfl, by first | rfl | rw [wi], hid rfl, hid HI.out, HO5, HB5⟩
  · have hin : N = i := by have := hi.out; omega
    subst hin
    have i1 : ¬ (N : Int) < (N : Int) := by omega
    have hlo := HOLL.out N
    have HNC := hid (own_nc hO.out)
    have HLN := hid hlo
    generalize outL b N = l at *
    clear hge hi hgk hlo HSUCC HALL
    go_wp2_with fail
    have hdr : Below wr.heap.size wr wr.drew := (Below.refl _ _).drew
    have HLW := hid ((Lst.own (own_bel hO.out hdr)).wide (Nat.zero_le _) (Nat.le_refl _))
    have HBW := hid (HB1.out.trans (hB.out.mono HB1.out.size))
    obtain ⟨P, hP⟩ : ∃ P, btP l = P := ⟨_, rfl⟩
    have HPE := hid hP
    have s1 := str_list b
    have s2 := str_list P
    clear hP
    by_cases hpb : P = b
    · subst hpb
      have d1 : (P != P) = false := by simp
      have d2 : (P == P) = true := by simp
      have HG := hid (HYES5.out HPE.out)
      clear s1
      refine wp_region_held_drew (S := fun wx => Below wr.heap.size wr wx) (by kernel_rfl) hdr (fun HS => ?_)
      refine qT 0 ?vq1_0 ?yq1_0 HS ?rq1_0
      case yq1_0 =>
        refine qI fun wS hSw => ?_
        go_simp
        try with_reducible rfl
      try simp only [Act.put, zA, zB, zC]
      refine qT 3 ?vq2_3 ?yq2_3 HS ?rq2_3
      case yq2_3 =>
        refine qI fun wS hSw => ?_
        go_simp
        try with_reducible rfl
      try simp only [Act.put, zA, zB, zC]
      refine qT 4 ?vq3_4 ?yq3_4 HS ?rq3_4
      case yq3_4 =>
        refine qI fun wS hSw => ?_
        have hcv := bt_str (c := c) (HR.out.below (HBW.out.trans (hSw.mono HBW.out.size)) (Nat.le_refl _))
        go_simp
        try with_reducible rfl
      try simp only [Act.put, zA, zB, zC]
      refine qR 1 fun K hK => ?_
      rw [if_pos (by rfl)]
      go_simp
      refine (rbtput_c HLW.out (by have := HN.out; omega) HOLR.out).mono ?_
      rintro e w5 ⟨A5, c5, rfl, hc5, ho5, hb5⟩
      have HB5 : Hid (Below wr.heap.size wr w5) := hid (hdr.trans (hb5.mono (Nat.le_refl _)))
      have hcv2 := bt_str (c := c5) (Bts.own ho5)
      rw [HPE.out] at hcv2 ⊢
      clear hb5 hc5 ho5
      refine hK.out _ _ HB5.out (fun HS => ?_)
      clear hK K
      try simp only [Act.put, zA, zB, zC]
      refine qR 2 fun K hK => ?_
      rw [if_pos (by rfl)]
      go_simp
      refine hK.out _ _ HB5.out (fun HS => ?_)
      clear hK K
      try simp only [Act.put, zA, zB, zC]
      refine qT 5 ?vq4_5 ?yq4_5 HS ?rq4_5
      case yq4_5 =>
        refine qI fun wS hSw => ?_
        go_simp
        try with_reducible rfl
      try simp only [Act.put, zA, zB, zC]
      refine wpAnyH_done (by kernel_rfl) ?_ _
      go_wp2
      go_ret2
      exact ⟨l, true, B, d, by rw [HLN.out]; rfl, HG.out, by rw [HLN.out]; exact ((Lst.own hO.out).below HB5.out (Nat.le_refl _)).wide (Nat.zero_le _) HB5.out.size, by rw [HLN.out]; exact HNC.out, HBW.out.trans (HB5.out.mono HBW.out.size)⟩
    · have d1 : (P != b) = true := by simpa using hpb
      have d2 : (P == b) = false := beq_eq_false_iff_ne.2 hpb
      have HG := hid (HNO5.out (by rw [HPE.out]; exact hpb))
      clear hpb
      refine wp_region_held_drew (S := fun wx => Below wr.heap.size wr wx) (by kernel_rfl) hdr (fun HS => ?_)
      refine qT 0 ?vq5_0 ?yq5_0 HS ?rq5_0
      case yq5_0 =>
        refine qI fun wS hSw => ?_
        go_simp
        try with_reducible rfl
      try simp only [Act.put, zA, zB, zC]
      refine qT 3 ?vq6_3 ?yq6_3 HS ?rq6_3
      case yq6_3 =>
        refine qI fun wS hSw => ?_
        go_simp
        try with_reducible rfl
      try simp only [Act.put, zA, zB, zC]
      refine qT 4 ?vq7_4 ?yq7_4 HS ?rq7_4
      case yq7_4 =>
        refine qI fun wS hSw => ?_
        have hcv := bt_str (c := c) (HR.out.below (HBW.out.trans (hSw.mono HBW.out.size)) (Nat.le_refl _))
        go_simp
        try with_reducible rfl
      try simp only [Act.put, zA, zB, zC]
      refine qR 1 fun K hK => ?_
      rw [if_pos (by rfl)]
      go_simp
      refine (rbtput_c HLW.out (by have := HN.out; omega) HOLR.out).mono ?_
      rintro e w5 ⟨A5, c5, rfl, hc5, ho5, hb5⟩
      have HB5 : Hid (Below wr.heap.size wr w5) := hid (hdr.trans (hb5.mono (Nat.le_refl _)))
      have hcv2 := bt_str (c := c5) (Bts.own ho5)
      rw [HPE.out] at hcv2 ⊢
      clear hb5 hc5 ho5
      refine hK.out _ _ HB5.out (fun HS => ?_)
      clear hK K
      try simp only [Act.put, zA, zB, zC]
      refine qR 2 fun K hK => ?_
      rw [if_pos (by rfl)]
      go_simp
      refine hK.out _ _ HB5.out (fun HS => ?_)
      clear hK K
      try simp only [Act.put, zA, zB, zC]
      refine qT 5 ?vq8_5 ?yq8_5 HS ?rq8_5
      case yq8_5 =>
        refine qI fun wS hSw => ?_
        go_simp
        try with_reducible rfl
      try simp only [Act.put, zA, zB, zC]
      refine wpAnyH_done (by kernel_rfl) ?_ _
      go_wp2
      go_ret2
      exact TGet.no HG.out (HBW.out.trans (HB5.out.mono HBW.out.size))
end Go.Proofs.Ytejmllpffocneaa
