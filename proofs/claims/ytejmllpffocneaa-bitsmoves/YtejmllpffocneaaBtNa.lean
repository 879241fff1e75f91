/- What bits.natural and bits.numbers return. Nothing is assumed. -/
import Derived.Test.YtejmllpffocneaaBtD
import Derived.Test.YtejmllpffocneaaCut
namespace Go.Proofs.Ytejmllpffocneaa
open Go.RowKit

theorem or_two {S j : Nat} (h : S < 2 ^ j) (hj : j < 64) : bits .or .u64 (S : Int) (IntKind.u64.wrap (2 ^ j)) = ((S + 2 ^ j : Nat) : Int) := by
  have h1 : 2 ^ j < 18446744073709551616 := Nat.lt_of_lt_of_le (Nat.pow_lt_pow_right (by decide) hj) (by decide)
  have e1 : ((2 : Int) ^ j) = ((2 ^ j : Nat) : Int) := by simp
  rw [e1, IntWalk.u64_in _ (by omega), u64_or_nat S (2 ^ j) (by omega) h1, Nat.or_comm, Nat.add_comm]
  have := Nat.two_pow_add_eq_or_of_lt h 1
  rw [Nat.mul_one] at this
  rw [this]
set_option maxRecDepth 100000 in
set_option maxHeartbeats 8000000 in
theorem btnat_c {w : World} {n c : Nat} {A : Option Addr} {l : List Bool} (h : Lst w 0 w.heap.size A n (bls l)) (hn : n ≤ 64) :
    Calls Try.prog 38 #[.slice A n c] w fun e w' => e = .returned (.int .u64 ((psb (tr l) n : Nat) : Int)) ∧ w = w' := by
  have HLL : Hid (l.length = n) := hid (by have := h.1; rwa [show (bls l).length = l.length by simp [bls]] at this)
  have HL := hid h
  have HN := hid hn
  clear h hn
  go_enter Try.func38, Try.ntmps38
  go_wp2_with fail
  go_loopg [3, 8] n (fun kk sv iv wr => ∃ (j S : Nat), sv = .int .u64 (S : Int) ∧ iv = .int .i64 (j : Int) ∧ Hid (kk = n - j) ∧ Hid (j ≤ n) ∧ Hid (psb (tr l) j = S) ∧ wr = w)
  case atStart => exact ⟨0, 0, rfl, rfl, hid rfl, hid (Nat.zero_le _), hid rfl, rfl⟩
  case round =>
    obtain ⟨j, S, rfl, rfl, hgk, hj, hS, rfl⟩ := hrel
    rename World => w
    rcases Nat.lt_or_ge j n with hlt | hge
    · have hjl : j < l.length := by rw [HLL.out]; exact hlt
      have j1 : (0 : Int) ≤ (j : Int) := by omega
      have j2 : (j : Int) < (n : Int) := by omega
      have j3 : decide ((j : Int) < (n : Int)) = true := by simpa using hlt
      have j4 : (j : Int) < 64 := by have := HN.out; omega
      have wj : wrap64 ((j : Int) + 1) = ((j + 1 : Nat) : Int) := by have := HN.out; unfold wrap64; omega
      obtain ⟨g, off, rfl, _, _, hcell⟩ := lst_b HL.out hjl
      have HJ := hid hlt
      have HT := hid (tr_at hjl)
      generalize l[j] = x at *
      clear hlt hjl
      cases x with
      | false =>
        have HS2 : Hid (psb (tr l) (j + 1) = S) := hid (by rw [psb, HT.out, hS.out]; simp)
        go_wp2_with fail
        go_roundg (n - (j + 1))
        case measure => exact meas_j hgk.out HJ.out
        case rel => exact ⟨j + 1, S, rfl, by first | rfl | rw [wj], hid rfl, hid HJ.out, HS2, rfl⟩
      | true =>
        have HSJ : Hid (S < 2 ^ j) := hid (by rw [← hS.out]; exact psb_lt _ _)
        have HJ64 : Hid (j < 64) := hid (by omega)
        have HS2 : Hid (psb (tr l) (j + 1) = S + 2 ^ j) := hid (by rw [psb, HT.out, hS.out]; simp)
        go_wp2_with fail
        go_roundg (n - (j + 1))
        case measure => exact meas_j hgk.out HJ.out
        case rel => exact ⟨j + 1, S + 2 ^ j, by rw [or_two HSJ.out HJ64.out], by first | rfl | rw [wj], hid rfl, hid HJ.out, HS2, rfl⟩
    · have hjn : j = n := by have := hj.out; omega
      subst hjn
      have j2 : ¬ (j : Int) < (j : Int) := by omega
      clear hge hj hgk
      go_wp2
      go_ret
      exact ⟨congrArg (fun z : Nat => Ending.returned (Value.int .u64 (z : Int))) hS.out.symm, rfl⟩
/-- A row of ints that is filled one by one. -/
def stL (f : Nat → Int) (n j : Nat) : List Int := (List.range n).map fun i => if i < j then f i else 0
theorem stL_len (f : Nat → Int) (n j : Nat) : (stL f n j).length = n := by simp [stL]
theorem stL_zero (f : Nat → Int) (n : Nat) : stL f n 0 = List.replicate n 0 := by
  refine List.ext_getElem (by simp [stL]) fun j h1 h2 => ?_
  simp [stL]
theorem stL_all (f : Nat → Int) (n : Nat) : stL f n n = (List.range n).map f := by
  refine List.ext_getElem (by simp [stL]) fun j h1 h2 => ?_
  rw [stL_len] at h1
  simp [stL, h1]
theorem stL_step (f : Nat → Int) (m k : Nat) : stL f m (k + 1) = (stL f m k).set k (f k) := by
  refine List.ext_getElem (by simp [stL]) fun j h1 h2 => ?_
  rw [List.getElem_set]
  simp only [stL, List.getElem_map, List.getElem_range]
  by_cases h3 : k = j
  · subst h3; rw [if_pos rfl, if_pos (by omega)]
  · rw [if_neg h3]
    by_cases h4 : j < k
    · rw [if_pos h4, if_pos (by omega)]
    · rw [if_neg h4, if_neg (by omega)]
theorem ics_set (l : List Int) (k : Nat) (x : Int) : (ics l).set k (.int .i64 x) = ics (l.set k x) := by simp [ics, List.map_set]
/-- Number i of truths that hold numbers of w bits. -/
def ntr (l : List Bool) (w i : Nat) : Nat := psb (fun j => tr l (i * w + j)) w
theorem ntr_cut (l : List Bool) (w i : Nat) : psb (tr ((l.drop (i * w)).take ((i + 1) * w - i * w))) w = ntr l w i := psb_congr fun j hj => by
  have e : (i + 1) * w = i * w + w := Nat.succ_mul i w
  rw [tr_take, if_pos (by omega)]
  unfold tr
  rw [List.getElem?_drop]
theorem ntr_bgL (b : List UInt8) {n w i : Nat} (h : i < n) : ntr (bgL b (n * w)) w i = nbd b w i := psb_congr fun j hj => by
  have h2 : (i + 1) * w ≤ n * w := Nat.mul_le_mul_right w h
  rw [Nat.succ_mul] at h2
  rw [tr_bgL, if_pos (by omega)]
theorem room_max (x : Int) : di 9223372036854775807 x = room x := rfl
theorem num_w (x : Int) (d : Nat) : wrap64 (IntKind.u64.wrap (IntKind.u64.wrap x + (d : Int))) = wrap64 (x + d) := by
  rw [IntKind.wrap_u64, IntKind.wrap_u64]
  unfold wrap64
  omega
/-- What bits.numbers answers. -/
def NumR (w : World) (t : List Bool) (n W : Nat) (x : Int) (e : Ending) (w' : World) : Prop :=
  ((∃ i, i < n ∧ room x < ntr t W i) ∧ e = .returned (.tuple #[.slice none 0 0, .bool false]) ∧ Below w.heap.size w w') ∨
  ((∀ i, i < n → ntr t W i ≤ room x) ∧ e = .returned (.tuple #[.slice (some ⟨w.heap.size, 0, none⟩) n n, .bool true]) ∧ w'.ownsRow w.heap.size 3 1 (.slice (some ⟨w.heap.size, 0, none⟩) n n) n (ics ((List.range n).map fun i => wrap64 (x + ntr t W i))) ∧ Below w.heap.size w w')
set_option maxRecDepth 100000 in
set_option maxHeartbeats 16000000 in
theorem btnums_c {w : World} {M c n W : Nat} {A : Option Addr} {t : List Bool} (h : Lst w 0 w.heap.size A M (bls t)) (hMc : M ≤ c) (hM : M = n * W) (hn : n ≤ 1000) (hW : W ≤ 64) {x : Int} (hx : i64r x) :
    Calls Try.prog 21 #[.slice A M c, .int .i64 n, .int .i64 x, .int .i64 W] w (NumR w t n W x) := by
  have HL := hid h
  have HMC := hid hMc
  have HM := hid hM
  have HN := hid hn
  have HW := hid hW
  have HX := hid hx
  have HAB := hid (above_c (x := 9223372036854775807) w (by unfold i64r; omega) hx hx.2)
  clear h hMc hM hn hW hx
  go_enter Try.func21, Try.ntmps21
  go_wp2_with fail
  refine HAB.out.mono ?_
  rintro e w0 ⟨rfl, rfl⟩
  rw [room_max]
  obtain ⟨r, hr⟩ : ∃ r, room x = r := ⟨_, rfl⟩
  have HR := hid hr
  rw [hr]
  have HRL : Hid (r < 18446744073709551616) := hid (by have := HX.out; unfold i64r at this; rw [← hr]; unfold room; omega)
  clear hr
  go_wp2_with (at_make; refine wpList_make_new _ rfl _ _ 22 rfl 3 (.int .i64 0) 8 Try.underlying22 Try.infoI_ rfl _ _ n n rfl rfl rfl rfl (Nat.le_refl _) (by have := HN.out; omega) (by have := HN.out; omega) ?_)
  intro w1 hblk hgr hlt0
  have hb1 : Below w.heap.size w w1 := grown_below hgr (Nat.le_refl _) (fun k h => by cases h)
  obtain ⟨f, hf⟩ : ∃ f, f = fun i => wrap64 (x + ntr t W i) := ⟨_, rfl⟩
  have HO : Hid (w1.ownsRow w.heap.size 3 1 (.slice (some ⟨w.heap.size, 0, none⟩) n n) n (ics (stL f n 0))) := hid (by
    have := own_zeros hblk.out (by have := HN.out; unfold maxLen; omega)
    rwa [show zeros n (Value.int .i64 0) = ics (stL f n 0) by rw [stL_zero]; simp [zeros, ics]] at this)
  have HF := hid hf
  have HB := hid hb1
  clear hblk hgr hlt0 hb1 hf
  go_wp2_with fail
  go_loopg [20] n (fun kk iv wr => ∃ j : Nat, iv = .int .i64 (j : Int) ∧ Hid (kk = n - j) ∧ Hid (j ≤ n) ∧ Hid (Below w.heap.size w wr) ∧ Hid (wr.ownsRow w.heap.size 3 1 (.slice (some ⟨w.heap.size, 0, none⟩) n n) n (ics (stL f n j))) ∧ Hid (∀ i, i < j → ntr t W i ≤ r))
  case atStart => exact ⟨0, rfl, hid rfl, hid (Nat.zero_le _), HB, HO, hid (fun i h => absurd h (by omega))⟩
  case round =>
    obtain ⟨j, rfl, hgk, hj, hB, hO, hS⟩ := hrel
    clear HO HB
    rename World => wr
    rcases Nat.lt_or_ge j n with hlt | hge
    · have j1 : (0 : Int) ≤ (j : Int) := by omega
      have j2 : (j : Int) < (n : Int) := by omega
      have j3 : decide ((j : Int) < (n : Int)) = true := by simpa using hlt
      have wj : wrap64 ((j : Int) + 1) = ((j + 1 : Nat) : Int) := by have := HN.out; exact w64_nat (m := j + 1) (by omega)
      have HJ := hid hlt
      have hW1 : (j + 1) * W ≤ M := by rw [HM.out]; exact Nat.mul_le_mul_right W hlt
      have hM6 : M ≤ 64000 := by rw [HM.out]; exact Nat.le_trans (Nat.mul_le_mul HN.out HW.out) (by decide)
      have hW2 : j * W ≤ (j + 1) * W := Nat.mul_le_mul_right W (Nat.le_succ j)
      have HC := hid (ntr_cut t W j)
      have HW3 : Hid ((j + 1) * W - j * W = W) := hid (by rw [Nat.succ_mul]; omega)
      obtain ⟨k0, hk0⟩ : ∃ k0, k0 = j * W := ⟨_, rfl⟩
      obtain ⟨k1, hk1⟩ : ∃ k1, k1 = (j + 1) * W := ⟨_, rfl⟩
      have e0 : wrap64 ((j : Int) * (W : Int)) = (k0 : Int) := by rw [hk0, ← Int.natCast_mul]; exact w64_nat (by omega)
      have e1 : wrap64 (((j : Int) + 1) * (W : Int)) = (k1 : Int) := by rw [show ((j : Int) + 1) = ((j + 1 : Nat) : Int) by omega, hk1, ← Int.natCast_mul]; exact w64_nat (by omega)
      rw [← hk0, ← hk1] at HC HW3 hW2
      rw [← hk1] at hW1
      have HK := hid (And.intro hW2 hW1)
      have HLb := hid (HL.out.below hB.out (Nat.le_refl _))
      clear hlt hk0 hk1 hW1 hW2 hM6
      go_wp2_with (refine wpList_cutLb rfl _ _ _ rfl rfl rfl (by first | rfl | exact e0) rfl (by first | rfl | exact e1) HK.out.1 HK.out.2 HMC.out HLb.out ?_)
      intro A' hA'
      rw [HW3.out] at hA' ⊢
      have hcl : ((bls t).drop k0).take W = bls ((t.drop k0).take W) := by simp [bls, List.map_drop, List.map_take]
      rw [hcl] at hA'
      have hN := btnat_c (c := c - k0) (hA'.wide (Nat.le_refl _) hB.out.size) HW.out
      have hcc := HC.out
      rw [HW3.out] at hcc
      rw [hcc] at hN
      obtain ⟨d, hd⟩ : ∃ d, ntr t W j = d := ⟨_, rfl⟩
      rw [hd] at hN
      have HD := hid hd
      have HDL : Hid (d < 18446744073709551616) := hid (by
        have h1 := psb_lt (fun q => tr t (j * W + q)) W
        have h2 : 2 ^ W ≤ 2 ^ 64 := Nat.pow_le_pow_right (by decide) HW.out
        rw [← hd]
        unfold ntr
        omega)
      clear hA' hcl hcc hd HC HW3 HLb HK e0 e1
      go_wp2_with fail
      refine hN.mono ?_
      rintro e w3 ⟨rfl, rfl⟩
      clear hN
      rcases Nat.lt_or_ge r d with hrd | hrd
      · have d1 : decide ((r : Int) < (d : Int)) = true := by simpa using hrd
        have d2 : (r : Int) < (d : Int) := by omega
        have HBAD : Hid (∃ i, i < n ∧ room x < ntr t W i) := hid ⟨j, HJ.out, by rw [HR.out, HD.out]; exact hrd⟩
        clear hrd wj
        go_wp2
        go_ret2
        exact .inl ⟨HBAD.out, rfl, hB.out⟩
      · have d1 : decide ((r : Int) < (d : Int)) = false := by simp; omega
        have d2 : ¬ (r : Int) < (d : Int) := by omega
        have d3 : decide (r < d) = false := by simp; omega
        have HRD := hid hrd
        have HS2 : Hid (∀ i, i < j + 1 → ntr t W i ≤ r) := hid (fun i hi => by
          rcases Nat.lt_or_ge i j with h | h
          · exact hS.out i h
          · rw [show i = j by omega, HD.out]; exact HRD.out)
        have HST := hid (stL_step f n j)
        obtain ⟨y0, hy0⟩ : ∃ y0, wr.cell? ⟨w.heap.size, j, none⟩ = some (.int .i64 y0) := by
          obtain ⟨g, off, hA, _, _, hc2⟩ := lst_i (Lst.own hO.out) (j := j) (by rw [stL_len]; exact HJ.out)
          injection hA with hA
          injection hA with h1 h2 _
          subst h1 h2
          rw [Nat.zero_add] at hc2
          exact ⟨_, hc2⟩
        have hfr : wr.frozen? ⟨w.heap.size, j, none⟩ = false := by
          obtain ⟨g, hA, _, _, hf⟩ := own_some hO.out (Nat.lt_of_le_of_lt (Nat.zero_le j) HJ.out)
          injection hA with hA
          injection hA with h1 _ _
          subst h1
          exact hf _
        obtain ⟨y, hy⟩ : ∃ y, wrap64 (IntKind.u64.wrap (IntKind.u64.wrap x + (d : Int))) = y := ⟨_, rfl⟩
        have HY : Hid (f j = y) := hid (by rw [HF.out, ← hy, num_w, ← HD.out])
        have HY2 := hid hy
        clear hrd hy
        go_wp2_with fail
        try rw [HY2.out]
        go_roundg (n - (j + 1))
        case measure => exact meas_j hgk.out HJ.out
        case rel =>
          have ho1 := own_store (k := j) hO.out (.int .i64 y)
          have hb1 : Below w.heap.size w (wr.setCell ⟨w.heap.size, j, none⟩ (.int .i64 y)) := hB.out.grown (grown_setCell _ _ _ _) hB.out.size (fun k hk => by injection hk with hk; exact Nat.le_of_eq hk)
          rw [ics_set, ← HY.out, ← HST.out] at ho1
          rw [← HY.out] at hb1
          try rw [HY2.out]
          rw [← HY.out]
          exact ⟨j + 1, by first | rfl | rw [wj], hid rfl, hid HJ.out, hid hb1, hid ho1, HS2⟩
    · have hjn : j = n := by have := hj.out; omega
      subst hjn
      have j2 : ¬ (j : Int) < (j : Int) := by omega
      have HB := hB.out
      have HO := hO.out
      rw [stL_all, HF.out] at HO
      clear hge hj hgk HL
      go_wp2
      go_ret2
      exact .inr ⟨fun i hi => by rw [HR.out]; exact hS.out i hi, rfl, HO, HB⟩
end Go.Proofs.Ytejmllpffocneaa
