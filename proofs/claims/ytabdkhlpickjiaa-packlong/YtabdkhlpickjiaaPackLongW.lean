/- The walk of PackLong: it answers true, whatever the input. -/
import Derived.Test.YtabdkhlpickjiaaPkFirst
import Derived.Test.YtabdkhlpickjiaaFrame
namespace Go.Proofs.Ytabdkhlpickjiaa
open Go.RowKit

set_option maxHeartbeats 1000000 in
theorem walkPackLong (a0 a1 : Int) (s : ByteArray) (w : World) (w0 : (Lit.int .u64 a0).wf = true) (w1 : (Lit.int .u64 a1).wf = true) (w2 : s.size ≤ maxLen) :
    Calls Try.prog 6 #[.int .u64 a0, .int .u64 a1, .string s] w fun e w' => e = .returned (.bool true) ∧ Below w.heap.size w w' := by
  obtain ⟨h1, h2⟩ := wf_u64 w0
  obtain ⟨h3, h4⟩ := wf_u64 w1
  obtain ⟨a, rfl⟩ := Int.eq_ofNat_of_zero_le h1
  obtain ⟨b, rfl⟩ := Int.eq_ofNat_of_zero_le h3
  have ha : a < 18446744073709551616 := by omega
  have hb : b < 18446744073709551616 := by omega
  unfold maxLen at w2
  clear w0 w1 h1 h2 h3 h4
  by_cases hs : 2000 < s.size
  · have hd : decide ((2000 : Int) < (s.size : Int)) = true := by simp; omega
    go_enter Try.func6, Try.ntmps6
    go_wp2_with fail
    refine (first_c w).mono ?_
    rintro e w1 ⟨rfl, hb1⟩
    go_wp2
    go_ret
    exact ⟨rfl, hb1⟩
  · have hd : decide ((2000 : Int) < (s.size : Int)) = false := by simp; omega
    go_enter Try.func6, Try.ntmps6
    go_wp2_with fail
    refine (first_c w).mono ?_
    rintro e w1 ⟨rfl, hb1⟩
    have hl10 := nat_len_u64 ha
    go_wp2_with fail
    go_loop [7, 8] (fun n x => ∃ k q : Nat, n = .int .i64 ((k + 1 : Nat) : Int) ∧ x = .int .u64 (q : Int) ∧ q < 18446744073709551616 ∧ k ≤ 9 ∧ Hid ((nat a).length = k + (nat q).length)) (fun _ x => (intOf x).toNat)
    case atStart => exact ⟨0, a, rfl, rfl, ha, by omega, by simp [Hid]⟩
    case round =>
      obtain ⟨k, q, rfl, rfl, hq, hk, hlen⟩ := hrel
      by_cases hlt : q < 128
      · have hd2 : decide ((127 : Int) < (q : Int)) = false := by simp; omega
        have hn : k + 1 = (nat a).length := by rw [hlen.out, nat_small hlt]; rfl
        have hE : (((nat a).length : Int) == (k : Int) + 1) = true := by simp; omega
        clear hn hlen
        go_wp2_with fail
        refine (natural_c none 0 0 a [] w1 (Bts.nil _ _ _ _) (by omega) ha).mono ?_
        rintro e w2 ⟨A2, c2, rfl, hc2, ho2, hb2⟩
        rw [List.nil_append] at *
        go_wp2_with fail
        refine (natural_c none 0 0 b [] w2 (Bts.nil _ _ _ _) (by omega) hb).mono ?_
        rintro e w3 ⟨A3, c3, rfl, hc3, ho3, hb3⟩
        rw [List.nil_append] at *
        have t2 : (convert 22 9 (.slice A2 (nat a).length c2)).run Try.prog w3 = .ok (.string (str (nat a))) w3 := lit_str _ ((Bts.own ho2).below hb3 (Nat.le_refl _)) rfl
        have t3 : (convert 22 9 (.slice A3 (nat b).length c3)).run Try.prog w3 = .ok (.string (str (nat b))) w3 := lit_str _ (Bts.own ho3) rfl
        have hl2 := nat_len_u64 hb
        have hfacts : (decide (b < a) = true ∧ ((str (nat a)).toList == (str (nat b)).toList) = false ∧ ((a : Int) == (b : Int)) = false) ∨ (decide (b < a) = false ∧ decide ((nat a).length ≤ (nat b).length) = true ∧ ((str (nat a)).toList == (str (nat b)).toList) = false ∧ ((a : Int) == (b : Int)) = false) ∨ (decide (b < a) = false ∧ decide ((nat a).length ≤ (nat b).length) = true ∧ ((str (nat a)).toList == (str (nat b)).toList) = true ∧ ((a : Int) == (b : Int)) = true) := by
          rcases Nat.lt_trichotomy a b with hab | hab | hab
          · exact .inr (.inl ⟨by simp; omega, by simpa using nat_mono b a b (Nat.le_refl _) (by omega), str_ne fun h => by have := nat_inj ha hb h; omega, by simp; omega⟩)
          · subst hab
            exact .inr (.inr ⟨by simp, by simp, by simp, by simp⟩)
          · exact .inl ⟨by simp; omega, str_ne fun h => by have := nat_inj ha hb h; omega, by simp; omega⟩
        have hls := nat_len_u64 (n := s.size) (by omega)
        rcases hfacts with ⟨f1, f3, f4⟩ | ⟨f1, f2, f3, f4⟩ | ⟨f1, f2, f3, f4⟩
        all_goals
          go_wp2_with fail
          refine (text_c none 0 0 s [] w3 (Bts.nil _ _ _ _) (by omega) (by omega)).mono ?_
          rintro e w4 ⟨A4, c4, rfl, hc4, ho4, hb4⟩
          have hL4 : ([] ++ nat s.size ++ s.data.toList).length = (nat s.size).length + s.size := by simp
          rw [hL4] at *
          go_wp2_with fail
          refine (natural_c none 0 0 s.size [] w4 (Bts.nil _ _ _ _) (by omega) (by omega)).mono ?_
          rintro e w5 ⟨A5, c5, rfl, hc5, ho5, hb5⟩
          rw [List.nil_append] at *
          clear hL4
          have f5 : (((nat s.size).length : Int) + (s.size : Int) == ((nat s.size).length : Int) + (s.size : Int)) = true := by simp
          go_wp2
          go_ret
          refine ⟨rfl, ?_⟩
          have z1 := hb1.size
          have z2 := hb2.size
          have z3 := hb3.size
          have z4 := hb4.size
          exact (((hb1.trans (hb2.mono z1)).trans (hb3.mono (by omega))).trans (hb4.mono (by omega))).trans (hb5.mono (by omega))
      · have hd2 : decide ((127 : Int) < (q : Int)) = true := by simp; omega
        have hl2 := hid (hlen.out.trans (by rw [nat_big hlt, List.length_cons]))
        have hp := nat_pos (q / 128)
        have hk2 : k + 1 ≤ 9 := by have := hl2.out; omega
        go_wp2
        refine ⟨⟨k + 1, q / 128, by go_num, by go_num, by omega, hk2, ?_⟩, by simp [intOf]; omega⟩
        have := hl2.out
        show _ = _
        omega
end Go.Proofs.Ytabdkhlpickjiaa
