/- What bits.above, widthOf, differences and natural return. Nothing is assumed. -/
import Derived.Test.YtejmllpffocneaaBtW
import Derived.Test.YtejmllpffocneaaBmR
import Derived.Test.YtejmllpffocneaaShelf
namespace Go.Proofs.Ytejmllpffocneaa
open Go.RowKit

theorem u64_sub {x m : Int} (hx : i64r x) (hm : i64r m) (h : m ≤ x) : IntKind.u64.wrap (IntKind.u64.wrap x - IntKind.u64.wrap m) = ((di x m : Nat) : Int) := by
  unfold i64r at *
  unfold di
  simp only [IntKind.wrap, IntKind.signed, IntKind.bits]
  simp
  omega
set_option maxRecDepth 100000 in
theorem above_c {x m : Int} (w : World) (hx : i64r x) (hm : i64r m) (h : m ≤ x) : Calls Try.prog 31 #[.int .i64 x, .int .i64 m] w fun e w' => e = .returned (.int .u64 ((di x m : Nat) : Int)) ∧ w = w' := by
  have HE := hid (u64_sub hx hm h)
  clear hx hm h
  go_enter Try.func31, Try.ntmps31
  go_wp2
  go_ret
  exact ⟨congrArg (fun z : Int => Ending.returned (Value.int .u64 z)) HE.out, rfl⟩
set_option maxRecDepth 100000 in
theorem len64_c {d : Nat} (w : World) (h : d < 18446744073709551616) : Calls Try.prog 30 #[.int .u64 (d : Int)] w fun e w' => e = .returned (.int .i64 ((Lib.bitLen d : Nat) : Int)) ∧ w = w' :=
  (Try.bits_Len64 (d : Int) w (by omega) (by omega)).mono fun e w' h => ⟨h.1, h.2.symm⟩
set_option maxRecDepth 100000 in
theorem widthOf_c {x m : Int} (w : World) (hx : i64r x) (hm : i64r m) (h : m ≤ x) : Calls Try.prog 14 #[.int .i64 m, .int .i64 x] w fun e w' => e = .returned (.int .i64 ((Lib.bitLen (di x m) : Nat) : Int)) ∧ w = w' := by
  have HA := hid (above_c w hx hm h)
  have HD := hid (di_lt hx hm)
  clear hx hm h
  go_enter Try.func14, Try.ntmps14
  go_wp2_with fail
  refine HA.out.mono ?_
  rintro e w1 ⟨rfl, rfl⟩
  go_wp2_with fail
  refine (len64_c w HD.out).mono ?_
  rintro e w1 ⟨rfl, rfl⟩
  go_wp2
  go_ret
  exact ⟨rfl, rfl⟩
theorem and1 (q : Nat) (h : q < 18446744073709551616) : bits .and .u64 (q : Int) 1 = (q : Int) % 2 := by
  have h1 := u64_and_nat q 1 h (by omega)
  have h2 : q &&& 1 = q % 2 := Nat.and_two_pow_sub_one_eq_mod q 1
  rw [h2] at h1
  simpa using h1
theorem shr_and {D i : Nat} (h : D < 18446744073709551616) : (bits .and .u64 ((D : Int) / 2 ^ i) 1 == 1) = bt D i := by
  have e : (D : Int) / 2 ^ i = ((D / 2 ^ i : Nat) : Int) := by simp
  rw [e, and1 _ (Nat.lt_of_le_of_lt (Nat.div_le_self _ _) h)]
  exact bt_v rfl
theorem bls_app (a b : List Bool) : bls (a ++ b) = bls a ++ bls b := by simp [bls]
theorem dBits_succ (i d : Nat) : dBits (i + 1) d = dBits i d ++ [bt d i] := by simp [dBits, List.range_succ]
theorem dfs_take {l : List Int} {j : Nat} (h : j < l.length) (m : Int) (W : Nat) : dfs (l.take (j + 1)) m W = dfs (l.take j) m W ++ dBits W (di l[j] m) := by rw [take_snoc h, dfs_snoc]
set_option maxRecDepth 100000 in
set_option maxHeartbeats 16000000 in
theorem diffs_c {w : World} {n c : Nat} {A : Option Addr} {l : List Int} (h : Lst w 0 w.heap.size A n (ics l)) (hn : n ≤ 1000) (h64 : i64s l) {m : Int} (hm : i64r m) (hle : ∀ x ∈ l, m ≤ x) {W : Nat} (hW : W ≤ 64) :
    Calls Try.prog 18 #[.slice A n c, .int .i64 m, .int .i64 (W : Int)] w fun e w' => ∃ A' c', e = .returned (.slice A' (n * W) c') ∧ w'.ownsRow w.heap.size 4 1 (.slice A' (n * W) c') (n * W) (bls (dfs l m W)) ∧ Below w.heap.size w w' := by
  have HLL : Hid (l.length = n) := hid (by have := h.1; rwa [ics_len] at this)
  have HL := hid h
  have HN := hid hn
  have HX := hid (fun (j : Nat) (hj : j < l.length) => And.intro (h64 _ (List.getElem_mem hj)) (hle _ (List.getElem_mem hj)))
  have HM := hid hm
  have HW := hid hW
  have HQ : Hid (n * W ≤ 64000) := hid (Nat.le_trans (Nat.mul_le_mul hn hW) (by decide))
  obtain ⟨M, hM⟩ : ∃ M, M = n * W := ⟨_, rfl⟩
  have wM : wrap64 ((n : Int) * (W : Int)) = (M : Int) := by
    have := HQ.out
    rw [hM, ← Int.natCast_mul]
    unfold wrap64
    omega
  have HMM := hid hM
  have HM8 : Hid (M ≤ 64000) := hid (by rw [hM]; exact HQ.out)
  clear h hn h64 hle hm hW hM
  go_enter Try.func18, Try.ntmps18
  go_wp2_with (at_make; refine wpList_make_new _ rfl _ _ 39 rfl 4 (.bool false) 1 Try.underlying39 Try.infoB_ rfl _ _ 0 M rfl rfl rfl wM (Nat.zero_le _) (by have := HM8.out; omega) (by have := HM8.out; omega) ?_)
  intro w1 hblk hgr hlt0
  have HB1 : Hid (Below w.heap.size w w1) := hid (grown_below hgr (Nat.le_refl _) (fun k h => by cases h))
  have HO1 : Hid (w1.ownsRow w.heap.size 4 1 (.slice (some ⟨w.heap.size, 0, none⟩) 0 M) 0 []) := hid (own_cut0 hblk.out (by have := HM8.out; unfold maxLen; omega) (Nat.le_refl _))
  clear hblk hgr hlt0 wM
  go_wp2_with fail
  go_loopg [7, 19] n (fun kk tv iv wr => ∃ (j P : Nat) (B : Option Addr) (d : Nat), tv = .slice B P d ∧ iv = .int .i64 (j : Int) ∧ Hid (P = j * W) ∧ Hid (kk = n - j) ∧ Hid (j ≤ n) ∧ Hid (wr.ownsRow w.heap.size 4 1 (.slice B P d) P (bls (dfs (l.take j) m W))) ∧ Hid (Below w.heap.size w wr))
  case atStart => exact ⟨0, 0, _, _, rfl, rfl, hid (Nat.zero_mul _).symm, hid rfl, hid (Nat.zero_le _), HO1, HB1⟩
  case round =>
    obtain ⟨j, P, B, d, rfl, rfl, hP, hgk, hj, hO, hB⟩ := hrel
    rename World => wr
    rcases Nat.lt_or_ge j n with hlt | hge
    · have hjl : j < l.length := by rw [HLL.out]; exact hlt
      have j1 : (0 : Int) ≤ (j : Int) := by omega
      have j2 : (j : Int) < (n : Int) := by omega
      have j3 : decide ((j : Int) < (n : Int)) = true := by simpa using hlt
      have wj : wrap64 ((j : Int) + 1) = ((j + 1 : Nat) : Int) := by have := HN.out; exact w64_nat (m := j + 1) (by omega)
      obtain ⟨g, off, rfl, _, hgl, hcell⟩ := lst_i (HL.out.below hB.out (Nat.le_refl _)) hjl
      have HJ := hid hlt
      obtain ⟨x1, x2⟩ := HX.out j hjl
      have HT := hid (dfs_take hjl m W)
      have HPQ : Hid (P + W ≤ 64000) := hid (by
        have h1 := HQ.out
        have h2 : (j + 1) * W ≤ n * W := Nat.mul_le_mul_right W hlt
        rw [Nat.succ_mul] at h2
        have h3 := hP.out
        omega)
      have HP2 : Hid (P + W = (j + 1) * W) := hid (by rw [Nat.succ_mul, hP.out])
      generalize l[j] = x at *
      have HD := hid (di_lt x1 HM.out)
      have hab := above_c wr x1 HM.out x2
      obtain ⟨D, hDe⟩ : ∃ D, di x m = D := ⟨_, rfl⟩
      rw [hDe] at hab HD HT
      clear hlt hjl x1 x2 hDe
      go_wp2_with fail
      refine hab.mono ?_
      rintro e w3 ⟨rfl, rfl⟩
      clear hab
      go_wp2_with fail
      go_loopg [7, 27] W (fun k2 tv iv wx => ∃ (i R : Nat) (B2 : Option Addr) (d2 : Nat), tv = .slice B2 R d2 ∧ iv = .int .i64 (i : Int) ∧ Hid (R = P + i) ∧ Hid (k2 = W - i) ∧ Hid (i ≤ W) ∧ Hid (wx.ownsRow w.heap.size 4 1 (.slice B2 R d2) R (bls (dfs (l.take j) m W ++ dBits i D))) ∧ Hid (Below w.heap.size w wx))
      case atStart => exact ⟨0, P, _, _, rfl, rfl, hid rfl, hid rfl, hid (Nat.zero_le _), hid (by simpa [dBits] using hO.out), hB⟩
      case round =>
        obtain ⟨i, R, B2, d2, rfl, rfl, hR, hgk2, hi, hO2, hB2⟩ := hrel
        clear hB hO
        rename World => wx
        rcases Nat.lt_or_ge i W with hlt | hge
        · have i1 : (0 : Int) ≤ (i : Int) := by omega
          have i2 : (i : Int) < (W : Int) := by omega
          have i3 : decide ((i : Int) < (W : Int)) = true := by simpa using hlt
          have i64 : (i : Int) < 64 := by have := HW.out; omega
          have HI := hid hlt
          have wi : wrap64 ((i : Int) + 1) = ((i + 1 : Nat) : Int) := by have := HW.out; exact w64_nat (m := i + 1) (by omega)
          have HY := hid (shr_and (i := i) HD.out)
          have HCAP : Hid (R + 1 ≤ 64000) := hid (by have := HPQ.out; have := hR.out; omega)
          have hsz := hB2.out.size
          clear hlt
          go_wp2_with (at_builtin; refine wpList_app1 _ rfl _ _ 39 _ rfl w.heap.size 4 (.bool false) 1 Try.underlying39 Try.infoB_ rfl _ _ _ _ rfl hO2.out _ rfl rfl (by have := HCAP.out; omega) (by have := HCAP.out; unfold maxLen; omega) hsz ?_)
          intro A4 c4 w4 hc4 ho4 _ hb4 _
          have HO4 : Hid (w4.ownsRow w.heap.size 4 1 (.slice A4 (R + 1) c4) (R + 1) (bls (dfs (l.take j) m W ++ dBits (i + 1) D))) := hid (by rw [dBits_succ, ← List.append_assoc, bls_snoc, ← HY.out]; exact ho4)
          have HB4 := hid (hB2.out.trans hb4)
          have HR4 : Hid (R + 1 = P + (i + 1)) := hid (by have := hR.out; omega)
          clear ho4 hb4 hsz hc4 HY hO2 hB2
          go_wp2_with fail
          go_roundg (W - (i + 1))
          case measure => exact meas_j hgk2.out HI.out
          case rel => exact ⟨i + 1, R + 1, A4, c4, rfl, by first | rfl | rw [wi], HR4, hid rfl, hid HI.out, HO4, HB4⟩
        · have hik : i = W := by have := hi.out; omega
          subst hik
          have i2 : ¬ (i : Int) < (i : Int) := by omega
          have HO3 : Hid (wx.ownsRow w.heap.size 4 1 (.slice B2 R d2) R (bls (dfs (l.take (j + 1)) m i))) := hid (by rw [HT.out]; exact hO2.out)
          have HR3 : Hid (R = (j + 1) * i) := hid (by rw [hR.out]; exact HP2.out)
          clear hge hi hgk2 hO2
          go_wp2_with fail
          go_roundg (n - (j + 1))
          case measure => exact meas_j hgk.out HJ.out
          case rel => exact ⟨j + 1, R, B2, d2, rfl, by first | rfl | rw [wj], HR3, hid rfl, hid HJ.out, HO3, hB2⟩
    · have hjn : j = n := by have := hj.out; omega
      subst hjn
      have j2 : ¬ (j : Int) < (j : Int) := by omega
      have HF : Hid (wr.ownsRow w.heap.size 4 1 (.slice B P d) P (bls (dfs l m W))) := hid (by have := hO.out; rwa [List.take_of_length_le (Nat.le_of_eq HLL.out)] at this)
      clear hge hj hgk hO
      go_wp2
      go_ret
      exact ⟨B, d, by rw [← hP.out]; rfl, by rw [← hP.out]; exact HF.out, hB.out⟩
end Go.Proofs.Ytejmllpffocneaa
