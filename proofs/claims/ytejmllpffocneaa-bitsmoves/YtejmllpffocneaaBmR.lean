/- What strongroomref10.Bits and Get return. Nothing is assumed. -/
import Derived.Test.YtejmllpffocneaaBmP
namespace Go.Proofs.Ytejmllpffocneaa
open Go.RowKit

theorem bgL_succ (b : List UInt8) (k : Nat) : bgL b (k + 1) = bgL b k ++ [bi b k] := by simp [bgL, List.range_succ]
theorem bls_snoc (l : List Bool) (x : Bool) : bls (l ++ [x]) = bls l ++ [.bool x] := by simp [bls]
theorem bt_v {x v i : Nat} (h : v = x / 2 ^ i) : ((v : Int) % 2 == 1) = bt x i := by
  unfold bt
  rw [← h]
  rcases Nat.mod_two_eq_zero_or_one v with e | e
  · have : (v : Int) % 2 = 0 := by omega
    rw [this, e]; rfl
  · have : (v : Int) % 2 = 1 := by omega
    rw [this, e]; rfl
theorem bt_t {v : Nat} : Int.tmod (v : Int) 2 = (v : Int) % 2 ∧ Int.tdiv (v : Int) 2 = ((v / 2 : Nat) : Int) ∧ (v : Int) / 2 = ((v / 2 : Nat) : Int) := by
  refine ⟨Int.tmod_eq_emod_of_nonneg (by omega), ?_, by omega⟩
  rw [Int.tdiv_eq_ediv_of_nonneg (by omega)]; omega
theorem half_step {x v i : Nat} (h : v = x / 2 ^ i) : v / 2 = x / 2 ^ (i + 1) := by rw [h, Nat.div_div_eq_div_mul, Nat.pow_succ]
theorem bi_at8 {b : List UInt8} {j i : Nat} (hj : j < b.length) (hi : i < 8) : bi b (8 * j + i) = bt b[j].toNat i := by
  unfold bi
  rw [show (8 * j + i) / 8 = j by omega, show (8 * j + i) % 8 = i by omega, List.getElem?_eq_getElem hj]
theorem br_cap {j i n : Nat} (hj : j < n) (hi : i < 8) (hn : n ≤ 100000) : (8 * j + i + 1) * 1 ≤ 140737488355328 ∧ 8 * j + i + 1 ≤ maxLen := by unfold maxLen; omega
set_option maxRecDepth 100000 in
set_option maxHeartbeats 16000000 in
theorem brbits_c {w : World} {n c : Nat} {A : Option Addr} {b : List UInt8} (h : Bts w 0 w.heap.size A n b) (hn : n ≤ 100000) :
    Calls Try.prog 26 #[.slice A n c] w fun e w' => ∃ A' c', e = .returned (.slice A' (8 * n) c') ∧ w'.ownsRow w.heap.size 4 1 (.slice A' (8 * n) c') (8 * n) (bls (bgL b (8 * n))) ∧ Below w.heap.size w w' := by
  have hl := h.len
  subst hl
  have HL := hid h
  have HN := hid hn
  clear h hn
  go_enter Try.func26, Try.ntmps26
  go_wp2_with fail
  go_loopg [3, 9] b.length (fun kk ov jv wr => ∃ (j : Nat) (A2 : Option Addr) (c2 : Nat), ov = .slice A2 (8 * j) c2 ∧ jv = .int .i64 (j : Int) ∧ Hid (kk = b.length - j) ∧ Hid (j ≤ b.length) ∧ Hid (Below w.heap.size w wr) ∧ Hid (wr.ownsRow w.heap.size 4 1 (.slice A2 (8 * j) c2) (8 * j) (bls (bgL b (8 * j)))))
  case atStart => exact ⟨0, none, 0, rfl, rfl, hid rfl, hid (Nat.zero_le _), hid (Below.refl _ _), hid (own_nilrow _ _ _ _)⟩
  case round =>
    obtain ⟨j, A2, c2, rfl, rfl, hgk, hj, hB, hO⟩ := hrel
    rename World => wr
    rcases Nat.lt_or_ge j b.length with hlt | hge
    · have j1 : (0 : Int) ≤ (j : Int) := by omega
      have j2 : (j : Int) < (b.length : Int) := by omega
      have j3 : decide ((j : Int) < (b.length : Int)) = true := by simpa using hlt
      have wj : wrap64 ((j : Int) + 1) = ((j + 1 : Nat) : Int) := by have := HN.out; unfold wrap64; omega
      obtain ⟨ga, oa, rfl, _, hga, hcell⟩ := (HL.out.below hB.out (Nat.le_refl _)).at_ hlt
      have HJ := hid hlt
      have HBI := hid (fun i (hi : i < 8) => bi_at8 (b := b) hlt hi)
      generalize b[j] = x at *
      have hx := x.toNat_lt
      have HX := hid hx
      clear hlt hx
      go_wp2_with fail
      go_loopg [3, 5, 6] 8 (fun k2 ov cv iv wx => ∃ (i v : Nat) (A3 : Option Addr) (c3 : Nat), ov = .slice A3 (8 * j + i) c3 ∧ cv = .int .u8 (v : Int) ∧ iv = .int .i64 (i : Int) ∧ Hid (k2 = 8 - i) ∧ Hid (i ≤ 8) ∧ Hid (v = x.toNat / 2 ^ i) ∧ Hid (Below w.heap.size w wx) ∧ Hid (wx.ownsRow w.heap.size 4 1 (.slice A3 (8 * j + i) c3) (8 * j + i) (bls (bgL b (8 * j + i)))))
      case atStart => exact ⟨0, x.toNat, A2, c2, rfl, rfl, rfl, hid rfl, hid (Nat.zero_le _), hid (by simp), hB, hO⟩
      case round =>
        obtain ⟨i, v, A3, c3, rfl, rfl, rfl, hgk2, hi, hv, hB2, hO2⟩ := hrel
        clear hB hO
        rename World => wx
        rcases Nat.lt_or_ge i 8 with hlt | hge
        · have t1 : decide ((i : Int) < 8) = true := by simp; omega
          have wi : wrap64 ((i : Int) + 1) = ((i + 1 : Nat) : Int) := by unfold wrap64; omega
          have HI := hid hlt
          obtain ⟨y, hy⟩ : ∃ y, y = ((v : Int) % 2 == 1) := ⟨_, rfl⟩
          have HY : Hid (bgL b (8 * j + i + 1) = bgL b (8 * j + i) ++ [y]) := hid (by rw [bgL_succ, HBI.out i hlt, hy, bt_v hv.out])
          have HV2 := hid (half_step hv.out)
          have hsz := hB2.out.size
          obtain ⟨p, hp⟩ : ∃ p, p = v / 2 := ⟨_, rfl⟩
          obtain ⟨v1, v2, v3⟩ := @bt_t v
          rw [← hp] at v2 v3 HV2
          have hv8 : p ≤ 255 := by rw [hp]; have h1 := HX.out; have h2 : v ≤ x.toNat := by { rw [hv.out]; exact Nat.div_le_self _ _ }; omega
          have w8 : IntKind.u8.wrap (p : Int) = (p : Int) := IntWalk.u8_in _ (by omega)
          clear hlt hv8 hp
          go_wp2_with (at_builtin; refine wpList_app1 _ rfl _ _ 39 _ rfl w.heap.size 4 (.bool false) 1 Try.underlying39 Try.infoB_ rfl _ _ _ _ rfl hO2.out _ rfl rfl (br_cap HJ.out HI.out HN.out).1 (br_cap HJ.out HI.out HN.out).2 hsz ?_)
          intro A4 c4 w4 hc4 ho4 _ hb4 _
          have HO4 : Hid (w4.ownsRow w.heap.size 4 1 (.slice A4 (8 * j + i + 1) c4) (8 * j + i + 1) (bls (bgL b (8 * j + i + 1)))) := hid (by rw [HY.out, bls_snoc, hy]; exact ho4)
          have HB4 := hid (hB2.out.trans hb4)
          clear ho4 hb4 hsz
          go_wp2_with fail
          go_roundg (8 - (i + 1))
          case measure => exact meas_j hgk2.out HI.out
          case rel => exact ⟨i + 1, p, A4, c4, rfl, by first | rfl | (rw [v3]; done) | (rw [v2]; done), by first | rfl | rw [wi], hid rfl, hid HI.out, HV2, HB4, HO4⟩
        · have hik : i = 8 := by have := hi.out; omega
          subst hik
          clear hge hi hgk2
          go_wp2_with fail
          go_roundg (b.length - (j + 1))
          case measure => exact meas_j hgk.out HJ.out
          case rel => exact ⟨j + 1, A3, c3, rfl, by first | rfl | rw [wj], hid rfl, hid HJ.out, hB2, hO2⟩
    · have hjn : j = b.length := by have := hj.out; omega
      subst hjn
      have j2 : ¬ (b.length : Int) < (b.length : Int) := by omega
      have HB := hB.out
      have HO := hO.out
      clear hge hj hgk
      go_wp2
      go_ret
      exact ⟨A2, c2, rfl, HO, HB⟩
end Go.Proofs.Ytejmllpffocneaa
