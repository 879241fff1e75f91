/- What value.addFloat and value.Put return: the bytes of a value behind others. -/
import Derived.Test.YtfjpnkchldjjmaaGreatDoorVlArg
import Derived.Test.YtfjpnkchldjjmaaGreatDoorPkW1
import Derived.Deep.RegionLawGrows
import Derived.Lib.SmallJoins
namespace Go.Proofs.YtfjpnkchldjjmaaGreatDoor
open Go.RowKit

theorem le_at : ∀ (k u j : Nat), j < k → (leN k u)[j]? = some (UInt8.ofNat (u / 256 ^ j % 256))
  | 0, _, _, h => by omega
  | k + 1, u, 0, _ => by simp [leN]
  | k + 1, u, j + 1, h => by
    rw [leN, List.getElem?_cons_succ, le_at k (u / 256) j (by omega), Nat.pow_succ, Nat.mul_comm (256 ^ j) 256, Nat.div_div_eq_div_mul]
theorem le_take {u j b : Nat} (hj : j < 8) (hb : b = u / 256 ^ j % 256) : bs ((leN 8 u).take (j + 1)) = bs ((leN 8 u).take j) ++ [Value.int .u8 (b : Int)] := by
  obtain ⟨h1, h2⟩ := List.getElem?_eq_some_iff.1 (le_at 8 u j hj)
  rw [List.take_succ_eq_append_getElem h1, h2, bs_app, ← hb]
  simp [bs]
  omega
theorem leb (b : Nat) (h : b < 256) : (b : Int) % 256 = (b : Int) := by omega
theorem af_l1 {k j : Nat} (h : k ≤ 1000000) (hj : j < 8) : (k + j + 1) * 1 ≤ 140737488355328 ∧ k + j + 1 ≤ maxLen := by unfold maxLen; omega

set_option maxRecDepth 20000 in
set_option maxHeartbeats 4000000 in
theorem addFloat_c (A : Option Addr) (k c : Nat) (xs : List Value) (base u : Nat) (w : World) (ho : w.ownsRow base 5 1 (.slice A k c) k xs) (hb : base ≤ w.heap.size) (hk : k ≤ 1000000) (hu : u < 18446744073709551616) :
    Calls Tryz.prog 23 #[.slice A k c, .int .u64 (u : Int)] w fun e w' => ∃ A' c', e = .returned (.slice A' (k + 8) c') ∧ w'.ownsRow base 5 1 (.slice A' (k + 8) c') (k + 8) (xs ++ bs (leN 8 u)) ∧ Below base w w' := by
  have HU := hid hu
  have HK := hid hk
  clear hu hk
  go_enter Tryz.func23, Tryz.ntmps23
  go_wp2_with fail
  go_loopw [0, 6] (fun o iv wr => ∃ (A' : Option Addr) (c' j : Nat), iv = .int .i64 (j : Int) ∧ o = .slice A' (k + j) c' ∧ Hid (wr.ownsRow base 5 1 (.slice A' (k + j) c') (k + j) (xs ++ bs ((leN 8 u).take j))) ∧ Below base w wr ∧ base ≤ wr.heap.size ∧ Hid (j ≤ 8)) (fun _ iv _ => 8 - (intOf iv).toNat)
  case atStart => exact ⟨A, c, 0, rfl, rfl, hid (by simpa [bs] using ho), Below.refl _ _, hb, hid (by omega)⟩
  case round =>
    obtain ⟨A', c', j, rfl, rfl, hown, hbel, hbase, hj⟩ := hrel
    have hcases : j = 0 ∨ j = 1 ∨ j = 2 ∨ j = 3 ∨ j = 4 ∨ j = 5 ∨ j = 6 ∨ j = 7 ∨ j = 8 := by have := hj.out; omega
    clear ho hb
    rcases hcases with rfl | rfl | rfl | rfl | rfl | rfl | rfl | rfl | rfl
    · obtain ⟨b, hb⟩ : ∃ b, b = u / 256 ^ 0 % 256 := ⟨_, rfl⟩
      have e1 : (u : Int) % 256 = (b : Int) := by rw [hb]; omega
      have HT := hid (le_take (u := u) (j := 0) (by decide) hb)
      obtain ⟨l1, l2⟩ := af_l1 (j := 0) HK.out (by decide)
      clear hb
      as_aux_lemma =>
      go_wp2_with (at_builtin; refine wpList_app1 _ rfl _ _ 22 _ rfl base 5 (.int .u8 0) 1 Tryz.underlying22 Tryz.infoU8 rfl _ _ _ _ rfl hown.out _ rfl rfl l1 l2 hbase ?_)
      intro A2 c2 w2 hc2 hown2 _ hb2 hbs2
      have HO : Hid (w2.ownsRow base 5 1 (.slice A2 (k + 1) c2) (k + 1) (xs ++ bs ((leN 8 u).take 1))) := hid (by rw [HT.out]; exact hown2)
      have hb3 := hbel.trans hb2
      clear hown2 hown
      go_wp2
      exact ⟨⟨A2, c2, 1, rfl, rfl, HO, hb3, hbs2, hid (by decide)⟩, by decide⟩
    · obtain ⟨b, hb⟩ : ∃ b, b = u / 256 ^ 1 % 256 := ⟨_, rfl⟩
      have e1 : (u : Int) / 256 % 256 = (b : Int) := by rw [hb]; omega
      have HT := hid (le_take (u := u) (j := 1) (by decide) hb)
      obtain ⟨l1, l2⟩ := af_l1 (j := 1) HK.out (by decide)
      clear hb
      as_aux_lemma =>
      go_wp2_with (at_builtin; refine wpList_app1 _ rfl _ _ 22 _ rfl base 5 (.int .u8 0) 1 Tryz.underlying22 Tryz.infoU8 rfl _ _ _ _ rfl hown.out _ rfl rfl l1 l2 hbase ?_)
      intro A2 c2 w2 hc2 hown2 _ hb2 hbs2
      have HO : Hid (w2.ownsRow base 5 1 (.slice A2 (k + 2) c2) (k + 2) (xs ++ bs ((leN 8 u).take 2))) := hid (by rw [HT.out]; exact hown2)
      have hb3 := hbel.trans hb2
      clear hown2 hown
      go_wp2
      exact ⟨⟨A2, c2, 2, rfl, rfl, HO, hb3, hbs2, hid (by decide)⟩, by decide⟩
    · obtain ⟨b, hb⟩ : ∃ b, b = u / 256 ^ 2 % 256 := ⟨_, rfl⟩
      have e1 : (u : Int) / 65536 % 256 = (b : Int) := by rw [hb]; omega
      have HT := hid (le_take (u := u) (j := 2) (by decide) hb)
      obtain ⟨l1, l2⟩ := af_l1 (j := 2) HK.out (by decide)
      clear hb
      as_aux_lemma =>
      go_wp2_with (at_builtin; refine wpList_app1 _ rfl _ _ 22 _ rfl base 5 (.int .u8 0) 1 Tryz.underlying22 Tryz.infoU8 rfl _ _ _ _ rfl hown.out _ rfl rfl l1 l2 hbase ?_)
      intro A2 c2 w2 hc2 hown2 _ hb2 hbs2
      have HO : Hid (w2.ownsRow base 5 1 (.slice A2 (k + 3) c2) (k + 3) (xs ++ bs ((leN 8 u).take 3))) := hid (by rw [HT.out]; exact hown2)
      have hb3 := hbel.trans hb2
      clear hown2 hown
      go_wp2
      exact ⟨⟨A2, c2, 3, rfl, rfl, HO, hb3, hbs2, hid (by decide)⟩, by decide⟩
    · obtain ⟨b, hb⟩ : ∃ b, b = u / 256 ^ 3 % 256 := ⟨_, rfl⟩
      have e1 : (u : Int) / 16777216 % 256 = (b : Int) := by rw [hb]; omega
      have HT := hid (le_take (u := u) (j := 3) (by decide) hb)
      obtain ⟨l1, l2⟩ := af_l1 (j := 3) HK.out (by decide)
      clear hb
      as_aux_lemma =>
      go_wp2_with (at_builtin; refine wpList_app1 _ rfl _ _ 22 _ rfl base 5 (.int .u8 0) 1 Tryz.underlying22 Tryz.infoU8 rfl _ _ _ _ rfl hown.out _ rfl rfl l1 l2 hbase ?_)
      intro A2 c2 w2 hc2 hown2 _ hb2 hbs2
      have HO : Hid (w2.ownsRow base 5 1 (.slice A2 (k + 4) c2) (k + 4) (xs ++ bs ((leN 8 u).take 4))) := hid (by rw [HT.out]; exact hown2)
      have hb3 := hbel.trans hb2
      clear hown2 hown
      go_wp2
      exact ⟨⟨A2, c2, 4, rfl, rfl, HO, hb3, hbs2, hid (by decide)⟩, by decide⟩
    · obtain ⟨b, hb⟩ : ∃ b, b = u / 256 ^ 4 % 256 := ⟨_, rfl⟩
      have e1 : (u : Int) / 4294967296 % 256 = (b : Int) := by rw [hb]; omega
      have HT := hid (le_take (u := u) (j := 4) (by decide) hb)
      obtain ⟨l1, l2⟩ := af_l1 (j := 4) HK.out (by decide)
      clear hb
      as_aux_lemma =>
      go_wp2_with (at_builtin; refine wpList_app1 _ rfl _ _ 22 _ rfl base 5 (.int .u8 0) 1 Tryz.underlying22 Tryz.infoU8 rfl _ _ _ _ rfl hown.out _ rfl rfl l1 l2 hbase ?_)
      intro A2 c2 w2 hc2 hown2 _ hb2 hbs2
      have HO : Hid (w2.ownsRow base 5 1 (.slice A2 (k + 5) c2) (k + 5) (xs ++ bs ((leN 8 u).take 5))) := hid (by rw [HT.out]; exact hown2)
      have hb3 := hbel.trans hb2
      clear hown2 hown
      go_wp2
      exact ⟨⟨A2, c2, 5, rfl, rfl, HO, hb3, hbs2, hid (by decide)⟩, by decide⟩
    · obtain ⟨b, hb⟩ : ∃ b, b = u / 256 ^ 5 % 256 := ⟨_, rfl⟩
      have e1 : (u : Int) / 1099511627776 % 256 = (b : Int) := by rw [hb]; omega
      have HT := hid (le_take (u := u) (j := 5) (by decide) hb)
      obtain ⟨l1, l2⟩ := af_l1 (j := 5) HK.out (by decide)
      clear hb
      as_aux_lemma =>
      go_wp2_with (at_builtin; refine wpList_app1 _ rfl _ _ 22 _ rfl base 5 (.int .u8 0) 1 Tryz.underlying22 Tryz.infoU8 rfl _ _ _ _ rfl hown.out _ rfl rfl l1 l2 hbase ?_)
      intro A2 c2 w2 hc2 hown2 _ hb2 hbs2
      have HO : Hid (w2.ownsRow base 5 1 (.slice A2 (k + 6) c2) (k + 6) (xs ++ bs ((leN 8 u).take 6))) := hid (by rw [HT.out]; exact hown2)
      have hb3 := hbel.trans hb2
      clear hown2 hown
      go_wp2
      exact ⟨⟨A2, c2, 6, rfl, rfl, HO, hb3, hbs2, hid (by decide)⟩, by decide⟩
    · obtain ⟨b, hb⟩ : ∃ b, b = u / 256 ^ 6 % 256 := ⟨_, rfl⟩
      have e1 : (u : Int) / 281474976710656 % 256 = (b : Int) := by rw [hb]; omega
      have HT := hid (le_take (u := u) (j := 6) (by decide) hb)
      obtain ⟨l1, l2⟩ := af_l1 (j := 6) HK.out (by decide)
      clear hb
      as_aux_lemma =>
      go_wp2_with (at_builtin; refine wpList_app1 _ rfl _ _ 22 _ rfl base 5 (.int .u8 0) 1 Tryz.underlying22 Tryz.infoU8 rfl _ _ _ _ rfl hown.out _ rfl rfl l1 l2 hbase ?_)
      intro A2 c2 w2 hc2 hown2 _ hb2 hbs2
      have HO : Hid (w2.ownsRow base 5 1 (.slice A2 (k + 7) c2) (k + 7) (xs ++ bs ((leN 8 u).take 7))) := hid (by rw [HT.out]; exact hown2)
      have hb3 := hbel.trans hb2
      clear hown2 hown
      go_wp2
      exact ⟨⟨A2, c2, 7, rfl, rfl, HO, hb3, hbs2, hid (by decide)⟩, by decide⟩
    · obtain ⟨b, hb⟩ : ∃ b, b = u / 256 ^ 7 % 256 := ⟨_, rfl⟩
      have e1 : (u : Int) / 72057594037927936 % 256 = (b : Int) := by rw [hb]; omega
      have HT := hid (le_take (u := u) (j := 7) (by decide) hb)
      obtain ⟨l1, l2⟩ := af_l1 (j := 7) HK.out (by decide)
      clear hb
      as_aux_lemma =>
      go_wp2_with (at_builtin; refine wpList_app1 _ rfl _ _ 22 _ rfl base 5 (.int .u8 0) 1 Tryz.underlying22 Tryz.infoU8 rfl _ _ _ _ rfl hown.out _ rfl rfl l1 l2 hbase ?_)
      intro A2 c2 w2 hc2 hown2 _ hb2 hbs2
      have HO : Hid (w2.ownsRow base 5 1 (.slice A2 (k + 8) c2) (k + 8) (xs ++ bs ((leN 8 u).take 8))) := hid (by rw [HT.out]; exact hown2)
      have hb3 := hbel.trans hb2
      clear hown2 hown
      go_wp2
      exact ⟨⟨A2, c2, 8, rfl, rfl, HO, hb3, hbs2, hid (by decide)⟩, by decide⟩
    · have HO := hown.out
      have hl : (leN 8 u).take 8 = leN 8 u := List.take_of_length_le (by rw [leN_len]; exact Nat.le_refl _)
      rw [hl] at HO
      have HO2 := hid HO
      clear HO hown hl
      go_wp2
      go_ret
      exact ⟨A', c', rfl, HO2.out, hbel⟩
end Go.Proofs.YtfjpnkchldjjmaaGreatDoor
