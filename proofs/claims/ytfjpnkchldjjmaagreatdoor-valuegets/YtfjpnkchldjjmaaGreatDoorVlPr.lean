/- What value.Print returns: the one text of a value. -/
import Derived.Test.YtfjpnkchldjjmaaGreatDoorVlW4
import Derived.Test.YtfjpnkchldjjmaaGreatDoorVlUnhex
import Derived.Test.YtfjpnkchldjjmaaGreatDoorVlMath2
import Derived.Test.YtfjpnkchldjjmaaGreatDoorFlPr
namespace Go.Proofs.YtfjpnkchldjjmaaGreatDoor
open Go.RowKit

theorem pr1 {v : Vl} (h : vk v = 1) : vPrintR v = digI (vn v) := by unfold vPrintR; exact if_pos h
theorem pr2 {v : Vl} (h : vk v = 2) : vPrintR v = if vn v = 1 then tTrue else tFalse := by unfold vPrintR; rw [if_neg (by omega), if_pos h]
theorem pr3 {v : Vl} (h : vk v = 3) : vPrintR v = 120 :: hex2 (vs v) := by unfold vPrintR; rw [if_neg (by omega), if_neg (by omega), if_pos h]
theorem pr4 {v : Vl} (h : vk v = 4) : vPrintR v = fPrint (vf v) := by unfold vPrintR; rw [if_neg (by omega), if_neg (by omega), if_neg (by omega), if_pos h]
theorem pr0 {v : Vl} (h : vk v = 0) : vPrintR v = tNull := by unfold vPrintR; rw [if_neg (by omega), if_neg (by omega), if_neg (by omega), if_neg (by omega)]
theorem vRt_2 (v : Vl) (h : vk (vRt v) = 2) : vn (vRt v) = 0 ∨ vn (vRt v) = 1 := by
  rcases vRight_cases (vRt_right v) with e | ⟨n, e⟩ | e | e | ⟨s, hs, e⟩ | ⟨f, hf, e⟩ <;> rw [e] at h ⊢ <;> first | exact .inl rfl | exact .inr rfl | (exact absurd h (by show ¬ (0 : Int) = 2; decide)) | (exact absurd h (by show ¬ (1 : Int) = 2; decide)) | (exact absurd h (by show ¬ (3 : Int) = 2; decide)) | (exact absurd h (by show ¬ (4 : Int) = 2; decide))
theorem boolWord_c (n : Int) (hn : n = 0 ∨ n = 1) (w : World) : Calls Tryz.prog 61 #[.int .i64 n] w fun e w' => e = .returned (.string (str (if n = 1 then tTrue else tFalse))) ∧ w' = w := by
  rcases hn with rfl | rfl
  · go_enter Tryz.func61, Tryz.ntmps61
    go_wp2
    go_ret
    exact ⟨rfl, rfl⟩
  · go_enter Tryz.func61, Tryz.ntmps61
    go_wp2
    go_ret
    exact ⟨rfl, rfl⟩
theorem x_app (l : List UInt8) : (⟨#[120]⟩ : ByteArray) ++ str l = str (120 :: l) := vstr_app [120] l

set_option maxRecDepth 20000 in
set_option maxHeartbeats 2000000 in
theorem vprint_c (v : Vl) (hf : vf v < 18446744073709551616) (n1 : -9223372036854775808 ≤ vn v) (n2 : vn v ≤ 9223372036854775807) (w : World) (hw : Lw w) :
    Calls Tryz.prog 41 #[(.agg #[.int .i64 (vk v), .int .i64 (vn v), .string (str (vs v)), .int .u64 ((vf v : Nat) : Int)])] w fun e w' => e = .returned (.string (str (vPrint v))) ∧ Below w.heap.size w w' := by
  have HA := hid (fun wx => rightOrNull_c v hf wx)
  have HF := hid (vRt_f hf)
  have HN := hid (And.intro (vRt_n1 n1) (vRt_n2 n2))
  have HK := hid (vRt_k v)
  have HS := hid (vRt_s v)
  have HB := hid (vRt_2 v)
  have HC : Hid (vPrint v = vPrintR (vRt v)) := hid rfl
  have HW := hid hw
  generalize vPrint v = r at *
  generalize vRt v = rv at *
  clear hf n1 n2 hw
  go_enter Tryz.func41, Tryz.ntmps41
  go_wp2_with fail
  refine (HA.out _).mono ?_
  rintro e w2 ⟨rfl, hb2⟩
  have hB := (Blk.new w 26 _).bel hb2 (by simp)
  obtain ⟨q0, q1, q2, q3, qf⟩ := hB.v4
  have hbel := (bel1 w _).trans (hb2.mono (by simp))
  have HBEL := hid (bel4 (g := w.heap.size) hbel (Nat.le_refl _) (.int .i64 (vk rv)) (.int .i64 (vn rv)) (.string (str (vs rv))) (.int .u64 ((vf rv : Nat) : Int)))
  have HP := hid (hB.put4 (.int .i64 (vk rv)) (.int .i64 (vn rv)) (.string (str (vs rv))) (.int .u64 ((vf rv : Nat) : Int)))
  have HLW := hid (HW.out.below HBEL.out)
  clear hB hb2 hbel HA HP HW
  have e1 : ∀ c : Int, vk rv = c → ∀ x : Int, x ≠ c → (vk rv == x) = false := fun c h x hx => by rw [h]; simpa using fun e => hx e.symm
  rcases HK.out with h | h | h | h | h
  · have t1 := e1 0 h 1 (by decide)
    have t2 := e1 0 h 2 (by decide)
    have t3 := e1 0 h 3 (by decide)
    have t4 := e1 0 h 4 (by decide)
    have HE := hid (pr0 h)
    clear e1 h
    go_wp2
    go_ret
    exact ⟨by rw [HC.out, HE.out]; rfl, HBEL.out⟩
  · have t1 : (vk rv == 1) = true := by rw [h]; rfl
    have HE := hid (pr1 h)
    clear e1 h
    go_wp2_with fail
    refine (Tryz.strconv_Itoa (vn rv) HN.out.1 HN.out.2 _ HLW.out.1).mono ?_
    rintro e w3 ⟨rfl, k, os, hw3⟩
    have hit : (⟨(Lib.itoa (vn rv)).toArray⟩ : ByteArray) = str (digI (vn rv)) := by rw [itoa_digI]; rfl
    rw [hit]
    clear hit
    have hb : Below w.heap.size w w3 := by rw [hw3]; exact HBEL.out.trans (Lib.below_grow _ _ HBEL.out.size k os)
    clear hw3
    go_wp2
    go_ret
    exact ⟨by rw [HC.out, HE.out]; rfl, hb⟩
  · have t1 := e1 2 h 1 (by decide)
    have t2 : (vk rv == 2) = true := by rw [h]; rfl
    have HE := hid (pr2 h)
    have HB2 := hid (fun wx => boolWord_c _ (HB.out h) wx)
    generalize (if vn rv = 1 then tTrue else tFalse) = t at *
    clear e1 h
    go_wp2_with fail
    refine (HB2.out _).mono ?_
    rintro e w3 ⟨rfl, rfl⟩
    go_wp2
    go_ret
    exact ⟨by rw [HC.out, HE.out]; rfl, HBEL.out⟩
  · have t1 := e1 3 h 1 (by decide)
    have t2 := e1 3 h 2 (by decide)
    have t3 : (vk rv == 3) = true := by rw [h]; rfl
    have HE := hid (pr3 h)
    have k1 : ¬ 9223372036854775807 < 1 + (str (hex2 (vs rv))).size := by rw [str_size, hex2_len]; have := HS.out; omega
    have hx := x_app (hex2 (vs rv))
    clear e1 h
    go_wp2_with fail
    refine (toHex_c _ (Nat.le_trans HS.out (by decide)) _).mono ?_
    rintro e w3 ⟨rfl, hb3⟩
    have hb4 := HBEL.out.trans (hb3.mono HBEL.out.size)
    go_wp2
    go_ret
    exact ⟨by rw [HC.out, HE.out, ← hx]; rfl, hb4⟩
  · have t1 := e1 4 h 1 (by decide)
    have t2 := e1 4 h 2 (by decide)
    have t3 := e1 4 h 3 (by decide)
    have t4 : (vk rv == 4) = true := by rw [h]; rfl
    have HE := hid (pr4 h)
    clear e1 h
    go_wp2_with fail
    refine (print_c _ HF.out _ HLW.out).mono ?_
    rintro e w3 ⟨rfl, hb3⟩
    have hb4 := HBEL.out.trans (hb3.mono HBEL.out.size)
    go_wp2
    go_ret
    exact ⟨by rw [HC.out, HE.out]; rfl, hb4⟩
end Go.Proofs.YtfjpnkchldjjmaaGreatDoor
