/- The walk of BitmapJoins: it answers true, whatever the input. -/
import Derived.Test.YtdkbpjkoiegflaaBmF
namespace Go.Proofs.Ytdkbpjkoiegflaa
open Go.RowKit

theorem bls_cell (l : List Bool) : ∀ u ∈ bls l, u.oneCell' = true := by
  intro u hu
  obtain ⟨b, _, rfl⟩ := List.mem_map.1 hu
  rfl
theorem own_none_lit {w : World} {e : TypeId} : (w.alloc (.cells #[] e)).ownsRow w.heap.size e 1 (.slice (some ⟨w.heap.size, 0, none⟩) 0 0) 0 [] :=
  ⟨rfl, .inr ⟨_, 0, _, rfl, Nat.le_refl _, Blk.new _ _ _, Nat.le_refl _, Nat.zero_le _, rfl, rfl⟩⟩
theorem bj_app {a b : List UInt8} : (⟨(a ++ b).toArray⟩ : ByteArray) = (⟨a.toArray⟩ : ByteArray) ++ ⟨b.toArray⟩ := by
  apply ByteArray.ext
  simp
theorem bj_cap {p q : Nat} (h1 : p ≤ 500) (h2 : q ≤ 500) : (0 + p) * 1 ≤ 140737488355328 ∧ 0 + p ≤ maxLen ∧ (p + q) * 1 ≤ 140737488355328 ∧ p + q ≤ maxLen ∧ p + q ≤ 100000 := by unfold maxLen; omega
set_option maxRecDepth 100000 in
set_option maxHeartbeats 16000000 in
theorem walkBitmapJoins (A : Option Addr) (n c : Nat) (x : List Bool) (B : Option Addr) (m d : Nat) (y : List Bool) (w : World) (w0 : Lst w 0 w.heap.size A n (x.map Value.bool) ∧ n ≤ c) (w1 : Lst w 0 w.heap.size B m (y.map Value.bool) ∧ m ≤ d) :
    Calls Try.prog 5 #[.slice A n c, .slice B m d] w fun e w' => e = .returned (.bool true) ∧ Below w.heap.size w w' := by
  have hx : x.length = n := by have := w0.1.1; simpa using this
  have hy : y.length = m := by have := w1.1.1; simpa using this
  have HX : Hid (Lst w 0 w.heap.size A n (bls x)) := hid w0.1
  have HY : Hid (Lst w 0 w.heap.size B m (bls y)) := hid w1.1
  have HC := hid w0.2
  have HXL := hid hx
  have HYL := hid hy
  clear w0 w1 hx hy
  go_enter Try.func5, Try.ntmps5
  go_wp2_with fail
  refine (bfirst_c w).mono ?_
  rintro e w1 ⟨rfl, hb1⟩
  have HB1 := hid hb1
  clear hb1
  by_cases hbig : 500 < n
  · have e1 : decide ((500 : Int) < (n : Int)) = true := by simp; omega
    have e2 : decide (500 < n) = true := decide_eq_true hbig
    clear hbig
    go_wp2
    go_ret
    exact ⟨rfl, HB1.out⟩
  have e1 : decide ((500 : Int) < (n : Int)) = false := by simp; omega
  have e2 : decide (500 < n) = false := decide_eq_false hbig
  by_cases hbig2 : 500 < m
  · have e3 : decide ((500 : Int) < (m : Int)) = true := by simp; omega
    have e4 : decide (500 < m) = true := decide_eq_true hbig2
    clear hbig hbig2
    go_wp2
    go_ret
    exact ⟨rfl, HB1.out⟩
  have e3 : decide ((500 : Int) < (m : Int)) = false := by simp; omega
  have e4 : decide (500 < m) = false := decide_eq_false hbig2
  have HN : Hid (n ≤ 500 ∧ m ≤ 500) := hid (by omega)
  obtain ⟨k, hk⟩ : ∃ k, k = n / 8 := ⟨_, rfl⟩
  obtain ⟨q, hq⟩ : ∃ q, q = k * 8 := ⟨_, rfl⟩
  have q1 : Int.tdiv (n : Int) 8 = (k : Int) := by rw [Int.tdiv_eq_ediv_of_nonneg (by omega)]; omega
  have q2 : (n : Int) / 8 = (k : Int) := by omega
  have q3 : wrap64 ((k : Int) * 8) = (q : Int) := by unfold wrap64; omega
  have q4 : IntKind.i64.wrap ((k : Int) * 8) = (q : Int) := by rw [IntWalk.i64_in _ (by omega)]; omega
  have q5 : (0 : Int) ≤ (q : Int) := by omega
  have q6 : (q : Int) ≤ (n : Int) := by omega
  have q7 : q ≤ c := by have := HC.out; omega
  have q8 : (q : Int) ≤ (c : Int) := by omega
  have w64 : wrap64 (k : Int) = (k : Int) := by unfold wrap64; omega
  have HQ : Hid (q ≤ n ∧ q % 8 = 0) := hid (by omega)
  clear hbig hbig2 hk hq
  obtain ⟨a, ha⟩ : ∃ a, a = x.take q := ⟨_, rfl⟩
  have HA : Hid (Lst w 0 w.heap.size A q (bls a)) := hid (by rw [ha]; exact lst_take HX.out HQ.out.1)
  have HAL : Hid (a.length = q ∧ a.length % 8 = 0) := hid (by have h : a.length = q := by { rw [ha, List.length_take]; have := HXL.out; have := HQ.out; omega }; exact ⟨h, by rw [h]; exact HQ.out.2⟩)
  clear ha
  go_wp2_with fail
  clear e1 e2 e3 e4 q1 q2 q3 q4 q5 q6 q7 q8 w64
  refine (bput_c (w := w1) (l := a) ((HA.out.below HB1.out (Nat.le_refl _)).wide (Nat.le_refl _) HB1.out.size) (by have := HN.out; have := HQ.out; omega)).mono ?_
  rintro e w2 ⟨A2, c2, rfl, hc2, ho2, hb2⟩
  have HB2 : Hid (Below w.heap.size w w2) := hid (HB1.out.trans (hb2.mono HB1.out.size))
  have HO2 := hid ho2
  clear hb2 ho2 hc2
  go_wp2_with fail
  refine (bput_c (w := w2) (l := y) ((HY.out.below HB2.out (Nat.le_refl _)).wide (Nat.le_refl _) HB2.out.size) (by have := HN.out; omega)).mono ?_
  rintro e w3 ⟨A3, c3, rfl, hc3, ho3, hb3⟩
  have HB3 : Hid (Below w.heap.size w w3) := hid (HB2.out.trans (hb3.mono HB2.out.size))
  have HP3 := hid (own_bel HO2.out hb3)
  have HO3 := hid ho3
  clear hb3 ho3 hc3 HO2
  have HQM := hid (bj_cap (p := q) (q := m) (by have := HN.out; have := HQ.out; omega) HN.out.2)
  go_wp2_with (at_builtin; refine wpList_appL _ rfl _ _ 22 rfl w3.heap.size 4 (.bool false) 1 Try.underlying22 Try.infoB_ rfl _ _ _ [] rfl own_none_lit 0 w.heap.size _ _ _ (bls a) rfl (HA.out.below (HB3.out.alloc HB3.out.size _) (Nat.le_refl _)) (bls_cell a) HQM.out.1 HQM.out.2.1 (by simp) ?_)
  intro A4 c4 w4 hc4 ho4 _ hb4 _
  have HO4 : Hid (w4.ownsRow w3.heap.size 4 1 (.slice A4 q c4) q (bls a)) := hid (by simpa using ho4)
  have HB4 : Hid (Below w3.heap.size w3 w4) := hid (((Below.refl _ _).alloc (Nat.le_refl _) _).trans hb4)
  clear ho4 hb4 hc4
  go_wp2_with (at_builtin; refine wpList_appL _ rfl _ _ 22 rfl w3.heap.size 4 (.bool false) 1 Try.underlying22 Try.infoB_ rfl _ _ _ (bls a) rfl HO4.out 0 w.heap.size _ _ _ (bls y) rfl (HY.out.below (HB3.out.trans (HB4.out.mono HB3.out.size)) (Nat.le_refl _)) (bls_cell y) HQM.out.2.2.1 HQM.out.2.2.2.1 HB4.out.size ?_)
  intro A5 c5 w5 hc5 ho5 _ hb5 _
  have HB5 : Hid (Below w3.heap.size w3 w5) := hid (HB4.out.trans hb5)
  have HO5 : Hid (w5.ownsRow w3.heap.size 4 1 (.slice A5 (q + m) c5) (q + m) (bls (a ++ y))) := hid (by rw [show bls (a ++ y) = bls a ++ bls y by simp [bls]]; exact ho5)
  clear ho5 hb5 hc5 HO4 HB4
  go_wp2_with fail
  refine (bput_c (w := w5) (l := a ++ y) ((Lst.own HO5.out).wide (Nat.zero_le _) (Nat.le_refl _)) (by have := HQM.out.2.2.2.2; omega)).mono ?_
  rintro e w6 ⟨A6, c6, rfl, hc6, ho6, hb6⟩
  have HB6 : Hid (Below w3.heap.size w3 w6) := hid (HB5.out.trans (hb6.mono HB5.out.size))
  have hs1 := bm_str ho6
  have hs2 := bm_str (own_bel HP3.out HB6.out)
  have hs3 := bm_str (own_bel HO3.out HB6.out)
  have HO6 := hid ho6
  have hap : bmP (a ++ y) = bmP a ++ bmP y := bmP_app y HAL.out.2
  have HAP := hid hap
  have HLS : Hid ((bmP a).length ≤ 100000 ∧ (bmP y).length ≤ 100000 ∧ (bmP (a ++ y)).length ≤ 100000) := hid (by
    rw [hap, List.length_append, bmP_len, bmP_len]; unfold nby
    have := HN.out; have := HQ.out; have := HAL.out; have := HYL.out; omega)
  have HSE : Hid (str (bmP (a ++ y)) = str (bmP a) ++ str (bmP y)) := hid (by rw [hap]; exact bj_app)
  rw [HSE.out] at hs1
  clear hb6 hc6 ho6 HO5 HB5 hap
  have hno : ¬ (9223372036854775807 < (str (bmP a)).size + (str (bmP y)).size) := by rw [str_size, str_size]; have := HLS.out; omega
  have hse : ((str (bmP a) ++ str (bmP y)).toList == (str (bmP a) ++ str (bmP y)).toList) = true := by simp
  go_wp2_with fail
  refine (bcount_c (w := w6) (b := bmP (a ++ y)) ((Bts.own HO6.out).wide (Nat.zero_le _) (Nat.le_refl _)) HLS.out.2.2).mono ?_
  rintro e w7 ⟨rfl, rfl⟩
  clear hs1 hs2 hs3 hno hse
  go_wp2_with fail
  refine (bcount_c (w := w6) (b := bmP a) ((Bts.own (own_bel HP3.out HB6.out)).wide (Nat.zero_le _) (Nat.le_refl _)) HLS.out.1).mono ?_
  rintro e w7 ⟨rfl, rfl⟩
  go_wp2_with fail
  refine (bcount_c (w := w6) (b := bmP y) ((Bts.own (own_bel HO3.out HB6.out)).wide (Nat.zero_le _) (Nat.le_refl _)) HLS.out.2.1).mono ?_
  rintro e w7 ⟨rfl, rfl⟩
  have hsum : bmC (bmP (a ++ y)) = bmC (bmP a) + bmC (bmP y) := by rw [HAP.out, bmC_app]
  have hb1 := bmC_le (bmP a)
  have hb2 := bmC_le (bmP y)
  have HLL := HLS.out
  rw [hsum]
  generalize bmC (bmP a) = s1 at *
  generalize bmC (bmP y) = s2 at *
  have ws : wrap64 ((s1 : Int) + (s2 : Int)) = ((s1 + s2 : Nat) : Int) := by unfold wrap64; omega
  have ws2 : wrap64 ((s1 : Int) + (s2 : Int)) = (s1 : Int) + (s2 : Int) := by unfold wrap64; omega
  have HF : Hid (Below w.heap.size w w6) := hid (HB3.out.trans (HB6.out.mono HB3.out.size))
  clear hsum hb1 hb2 HLL ws
  go_wp2
  go_ret
  exact ⟨rfl, HF.out⟩
end Go.Proofs.Ytdkbpjkoiegflaa
