/- What float.Print returns: the one text of a float. -/
import Derived.Test.YtfjpnkchldjjmaaGreatDoorFlFmt
import Derived.Test.YtfjpnkchldjjmaaGreatDoorFlW1
namespace Go.Proofs.YtfjpnkchldjjmaaGreatDoor
open Go.RowKit

theorem dig_lib (n : Nat) : Lib.decDigits n = dig n := by
  induction n using Nat.strongRecOn with
  | _ n ih =>
    by_cases h : n < 10
    · rw [Lib.decDigits, dif_pos h, dig_small h]
    · rw [Lib.decDigits, dif_neg h, dig_big h, ih (n / 10) (by omega)]
theorem itoa_digI (n : Int) : Lib.itoa n = digI n := by
  unfold Lib.itoa digI
  rw [dig_lib, dig_lib]
  by_cases h : n < 0
  · rw [if_pos h, if_pos h]
  · rw [if_neg h, if_neg h, show n.toNat = n.natAbs by omega]
theorem str_app (a b : List UInt8) : str a ++ str b = str (a ++ b) := ByteArray.mk_append_mk a b
theorem repeat_zero : ∀ c, Lib.repeatL [48] c = List.replicate c 48 := fun c => by
  have h := Lib.repeatL_replicate 48 1 c
  rwa [Nat.mul_one] at h

theorem inf1_c (u : Nat) (hu : u < 18446744073709551616) (hn : fNan u = false) (w : World) :
    Calls Tryz.prog 76 #[.float .f64 u, .int .i64 1] w fun e w' => e = .returned (.bool (decide (u = 9218868437227405312))) ∧ w = w' := by
  have g := (fNan_false u hu).1 hn
  have hm : fNan 9218868437227405311 = false := by decide
  have k : fCmpOk u 9218868437227405311 = true := by unfold fCmpOk; rw [hn, hm]; rfl
  have e1 : fNum 9218868437227405311 = 9218868437227405311 := by decide
  by_cases h : u = 9218868437227405312
  · have ho := ord_gt hu (by omega) k (by rw [e1, h]; decide)
    have hd : decide (u = 9218868437227405312) = true := by simpa using h
    rw [hd]
    clear h g hd
    go_enter Tryz.func76, Tryz.ntmps76
    go_wp2
    go_ret
    exact ⟨rfl, rfl⟩
  · have hd : decide (u = 9218868437227405312) = false := by simpa using h
    rw [hd]
    by_cases h2 : u = 9218868437227405311
    · have ho := ord_eq hu (by omega) k (by rw [h2])
      clear h g hd h2
      go_enter Tryz.func76, Tryz.ntmps76
      go_wp2
      go_ret
      exact ⟨rfl, rfl⟩
    · have ho := ord_lt hu (by omega) k (by rw [e1]; unfold fNum; split <;> omega)
      clear h g hd h2
      go_enter Tryz.func76, Tryz.ntmps76
      go_wp2
      go_ret
      exact ⟨rfl, rfl⟩
theorem flip_xor (u : Nat) (hu : u < 18446744073709551616) : u ^^^ 9223372036854775808 = fFlip u := by
  have h1 := Nat.xor_mod_two_pow (a := u) (b := 2 ^ 63) (n := 63)
  have h2 := Nat.xor_div_two_pow (a := u) (b := 2 ^ 63) (n := 63)
  rw [Nat.mod_self, Nat.xor_zero] at h1
  rw [Nat.div_self (by decide)] at h2
  have e : (2 : Nat) ^ 63 = 9223372036854775808 := by decide
  rw [e] at h1 h2
  generalize u ^^^ 9223372036854775808 = y at *
  unfold fFlip
  have h3 : u / 9223372036854775808 = 0 ∨ u / 9223372036854775808 = 1 := by omega
  rcases h3 with h3 | h3
  · rw [h3] at h2
    have h4 : (0 : Nat) ^^^ 1 = 1 := by decide
    rw [h4] at h2
    split <;> omega
  · rw [h3] at h2
    have h4 : (1 : Nat) ^^^ 1 = 0 := by decide
    rw [h4] at h2
    split <;> omega
theorem neg_flip (u : Nat) (hu : u < 18446744073709551616) : Op.negFloat .f64 u = fFlip u := flip_xor u hu
theorem inf2_c (u : Nat) (hu : u < 18446744073709551616) (hn : fNan u = false) (w : World) :
    Calls Tryz.prog 76 #[.float .f64 u, .int .i64 (-1)] w fun e w' => e = .returned (.bool (decide (u = 18442240474082181120))) ∧ w = w' := by
  have g := (fNan_false u hu).1 hn
  have hm : fNan 9218868437227405311 = false := by decide
  have hneg : ∀ w, (Op.unary .neg (.float .f64 u)).run Tryz.prog w = .ok (.float .f64 (fFlip u)) w := fun w => by rw [← neg_flip u hu]; rfl
  have k : fCmpOk (fFlip u) 9218868437227405311 = true := by unfold fCmpOk; rw [fFlip_nan hu, hn, hm]; rfl
  have e1 : fNum 9218868437227405311 = 9218868437227405311 := by decide
  have e2 := fFlip_num hu
  have hl := fFlip_lt hu
  by_cases h : u = 18442240474082181120
  · have ho := ord_gt hl (by omega) k (by rw [e1, e2, h]; decide)
    have hd : decide (u = 18442240474082181120) = true := by simpa using h
    rw [hd]
    clear h g hd e1 e2 k
    go_enter Tryz.func76, Tryz.ntmps76
    go_wp2
    go_ret
    exact ⟨rfl, rfl⟩
  · have hd : decide (u = 18442240474082181120) = false := by simpa using h
    rw [hd]
    by_cases h2 : u = 18442240474082181119
    · have ho := ord_eq hl (by omega) k (by rw [e2, e1, h2]; decide)
      clear h g hd h2 e1 e2 k
      go_enter Tryz.func76, Tryz.ntmps76
      go_wp2
      go_ret
      exact ⟨rfl, rfl⟩
    · have ho := ord_lt hl (by omega) k (by rw [e1, e2]; unfold fNum; split <;> omega)
      clear h g hd h2 e1 e2 k
      go_enter Tryz.func76, Tryz.ntmps76
      go_wp2
      go_ret
      exact ⟨rfl, rfl⟩

theorem digI_len {n : Int} (h : inRange n = true) : (digI n).length ≤ 18 := by
  unfold inRange at h
  simp at h
  have h1 := dig_len 16 n.natAbs (by omega)
  unfold digI
  split <;> simp <;> omega
theorem fPrint_nan {u : Nat} (h : fNan u = true) : fPrint u = tNan := by unfold fPrint; rw [h]; rfl
theorem fPrint_not {u : Nat} (h : fNan u = false) : fPrint u = if u = 9218868437227405312 then tInf else if u = 18442240474082181120 then tNinf else if u = 9223372036854775808 then tNz
  else match fWhole u with
    | some n => digI n ++ [46]
    | none => 48 :: 120 :: hexk 16 u := by unfold fPrint; rw [h]; rfl

set_option maxHeartbeats 1000000 in
theorem print_c (u : Nat) (hu : u < 18446744073709551616) (w : World) (hw : Lw w) :
    Calls Tryz.prog 63 #[.int .u64 (u : Int)] w fun e w' => e = .returned (.string (str (fPrint u))) ∧ Below w.heap.size w w' := by
  have hfb := frombits
  have HW := hid hw
  clear hw
  cases hn : fNan u
  · obtain ⟨p, hp⟩ : ∃ p, p = fPrint u := ⟨_, rfl⟩
    have HP := hid (hp.trans (fPrint_not hn))
    rw [← hp]
    clear hp
    by_cases h1 : u = 9218868437227405312
    · have HR := hid (HP.out.trans (if_pos h1))
      have d1 : decide (u = 9218868437227405312) = true := by simpa using h1
      clear HP h1
      go_enter Tryz.func63, Tryz.ntmps63
      go_wp2_with fail
      refine (isNaN_c u hu w).mono ?_
      rintro e w' ⟨rfl, rfl⟩
      rw [hn]
      go_wp2_with fail
      refine (inf1_c u hu hn w).mono ?_
      rintro e w' ⟨rfl, rfl⟩
      rw [d1]
      go_wp2
      go_ret
      exact ⟨by rw [HR.out]; rfl, Below.refl _ _⟩
    · have d1 : decide (u = 9218868437227405312) = false := by simpa using h1
      replace HP := hid (HP.out.trans (if_neg h1))
      clear h1
      by_cases h2 : u = 18442240474082181120
      · have HR := hid (HP.out.trans (if_pos h2))
        have d2 : decide (u = 18442240474082181120) = true := by simpa using h2
        clear HP h2
        go_enter Tryz.func63, Tryz.ntmps63
        go_wp2_with fail
        refine (isNaN_c u hu w).mono ?_
        rintro e w' ⟨rfl, rfl⟩
        rw [hn]
        go_wp2_with fail
        refine (inf1_c u hu hn w).mono ?_
        rintro e w' ⟨rfl, rfl⟩
        rw [d1]
        go_wp2_with fail
        refine (inf2_c u hu hn w).mono ?_
        rintro e w' ⟨rfl, rfl⟩
        rw [d2]
        go_wp2
        go_ret
        exact ⟨by rw [HR.out]; rfl, Below.refl _ _⟩
      · have d2 : decide (u = 18442240474082181120) = false := by simpa using h2
        replace HP := hid (HP.out.trans (if_neg h2))
        clear h2
        by_cases h3 : u = 9223372036854775808
        · have HR := hid (HP.out.trans (if_pos h3))
          have d3 : ((u : Int) == 9223372036854775808) = true := by simp; omega
          clear HP h3
          go_enter Tryz.func63, Tryz.ntmps63
          go_wp2_with fail
          refine (isNaN_c u hu w).mono ?_
          rintro e w' ⟨rfl, rfl⟩
          rw [hn]
          go_wp2_with fail
          refine (inf1_c u hu hn w).mono ?_
          rintro e w' ⟨rfl, rfl⟩
          rw [d1]
          go_wp2_with fail
          refine (inf2_c u hu hn w).mono ?_
          rintro e w' ⟨rfl, rfl⟩
          rw [d2]
          go_wp2
          go_ret
          exact ⟨by rw [HR.out]; rfl, Below.refl _ _⟩
        · have d3 : ((u : Int) == 9223372036854775808) = false := by simp; omega
          replace HP := hid (HP.out.trans (if_neg h3))
          clear h3
          cases hf : fWhole u with
          | some n =>
            rw [hf] at HP
            have hr := (fWhole_some hu hf).1
            have hl := digI_len hr
            have hr2 : -9007199254740992 ≤ n ∧ n ≤ 9007199254740992 := by unfold inRange at hr; simpa using hr
            have k1 : ¬ 9223372036854775807 < (str (digI n)).size + 1 := by rw [str_size]; omega
            have hap : str (digI n) ++ (⟨#[46]⟩ : ByteArray) = str p := by rw [HP.out]; exact str_app _ [46]
            have HAP := hid hap
            clear hap HP hl
            go_enter Tryz.func63, Tryz.ntmps63
            go_wp2_with fail
            refine (isNaN_c u hu w).mono ?_
            rintro e w' ⟨rfl, rfl⟩
            rw [hn]
            go_wp2_with fail
            refine (inf1_c u hu hn w).mono ?_
            rintro e w' ⟨rfl, rfl⟩
            rw [d1]
            go_wp2_with fail
            refine (inf2_c u hu hn w).mono ?_
            rintro e w' ⟨rfl, rfl⟩
            rw [d2]
            go_wp2_with fail
            refine (toInt_c u hu w).mono ?_
            rintro e w' ⟨rfl, rfl⟩
            rw [hf]
            go_wp2_with fail
            refine (Tryz.strconv_Itoa n (by omega) (by omega) w HW.out.1).mono ?_
            rintro e w2 ⟨rfl, k, os, hw2⟩
            have hit : (⟨(Lib.itoa n).toArray⟩ : ByteArray) = str (digI n) := by rw [itoa_digI]; rfl
            rw [hit]
            clear hit
            have hb : Below w.heap.size w w2 := by rw [hw2]; exact Lib.below_grow w.heap.size w (Nat.le_refl _) k os
            clear hw2
            go_wp2
            go_ret
            exact ⟨by rw [← HAP.out]; rfl, hb⟩
          | none =>
            rw [hf] at HP
            have hl := hexs_len 15 u hu
            obtain ⟨c, hc⟩ : ∃ c, c = 16 - (hexs u).length := ⟨_, rfl⟩
            have hc16 : c + (hexs u).length = 16 := by omega
            have w1 : wrap64 (16 - ((str (hexs u)).size : Int)) = (c : Int) := by rw [str_size]; unfold wrap64; omega
            have w1' : (16 : Int) - ((str (hexs u)).size : Int) = (c : Int) := by rw [str_size]; omega
            have hap : (⟨#[48, 120]⟩ : ByteArray) ++ str (List.replicate c 48) ++ str (hexs u) = str p := by
              rw [HP.out, show (⟨#[48, 120]⟩ : ByteArray) = str [48, 120] from rfl, str_app, str_app, ← hexs_pad 15 u hu, hc]
              rfl
            have k1 : ¬ 9223372036854775807 < 2 + (str (List.replicate c 48)).size := by rw [str_size, List.length_replicate]; omega
            have k2 : ¬ 9223372036854775807 < 2 + (str (List.replicate c 48)).size + (str (hexs u)).size := by rw [str_size, List.length_replicate, str_size]; omega
            have HAP := hid hap
            have HC := hid hc16
            clear hap HP hl hc hc16
            go_enter Tryz.func63, Tryz.ntmps63
            go_wp2_with fail
            refine (isNaN_c u hu w).mono ?_
            rintro e w' ⟨rfl, rfl⟩
            rw [hn]
            go_wp2_with fail
            refine (inf1_c u hu hn w).mono ?_
            rintro e w' ⟨rfl, rfl⟩
            rw [d1]
            go_wp2_with fail
            refine (inf2_c u hu hn w).mono ?_
            rintro e w' ⟨rfl, rfl⟩
            rw [d2]
            go_wp2_with fail
            refine (toInt_c u hu w).mono ?_
            rintro e w' ⟨rfl, rfl⟩
            rw [hf]
            go_wp2_with fail
            refine (formatUint_c u hu w HW.out).mono ?_
            rintro e w2 ⟨rfl, hb⟩
            go_wp2_with fail
            refine (Tryz.strings_Repeat ⟨#[48]⟩ c w2 (by have := HC.out; omega) (by have := HC.out; have e : ByteArray.size ⟨#[48]⟩ = 1 := rfl; rw [e]; omega)).mono ?_
            rintro e w3 ⟨rfl, hb2⟩
            have hit : (⟨(Lib.repeatL (⟨#[48]⟩ : ByteArray).data.toList c).toArray⟩ : ByteArray) = str (List.replicate c 48) := by
              rw [show (⟨#[48]⟩ : ByteArray).data.toList = [48] from rfl, repeat_zero]; rfl
            rw [hit]
            clear hit
            have hb3 := hb.trans (hb2.mono hb.size)
            go_wp2
            go_ret
            exact ⟨by rw [← HAP.out]; rfl, hb3⟩
  · have hp := hid (fPrint_nan hn)
    go_enter Tryz.func63, Tryz.ntmps63
    go_wp2_with fail
    refine (isNaN_c u hu w).mono ?_
    rintro e w' ⟨rfl, rfl⟩
    rw [hn]
    go_wp2
    go_ret
    exact ⟨by rw [hp.out]; rfl, Below.refl _ _⟩
end Go.Proofs.YtfjpnkchldjjmaaGreatDoor
