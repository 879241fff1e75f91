/- What the document's own digits and Print of package value return. -/
import Derived.Test.YtomgpkklbhdgiaaGreatDoorVlPr
import Derived.Test.YtomgpkklbhdgiaaGreatDoorVlW3r
import Derived.Test.YtomgpkklbhdgiaaGreatDoorFlR3
namespace Go.Proofs.YtomgpkklbhdgiaaGreatDoor
open Go.RowKit

theorem d3_facts {n : Int} {k : Nat} (h : n = -(k : Int)) (h0 : 0 < k) (hk : k ≤ 9223372036854775808) : decide (0 ≤ n) = false ∧ (k < 10 → decide (-10 < n) = true ∧ wrap64 (-n) = (k : Int) ∧ IntKind.i64.wrap (-n) = (k : Int) ∧ -n = (k : Int)) ∧
    (10 ≤ k → decide (-10 < n) = false ∧ Int.tdiv n 10 = -((k / 10 : Nat) : Int) ∧ Int.tmod n 10 = -((k % 10 : Nat) : Int)) := by
  have hd : Int.tdiv n 10 = -((k / 10 : Nat) : Int) := by rw [h, Int.neg_tdiv, Int.tdiv_eq_ediv_of_nonneg (by omega)]; omega
  have hm : Int.tmod n 10 = -((k % 10 : Nat) : Int) := by rw [h, Int.neg_tmod, Int.tmod_eq_emod_of_nonneg (by omega)]; omega
  refine ⟨by simp; omega, fun h9 => ⟨by simp; omega, ?_, ?_, by omega⟩, fun h9 => ⟨by simp; omega, hd, hm⟩⟩
  · unfold wrap64; omega
  · exact (IntWalk.i64_in _ (by omega)).trans (by omega)
theorem d3_more {m x : Int} {q r : Nat} (hm : m = -(q : Int)) (hx : x = -(r : Int)) (hq : q ≤ 922337203685477580) (hr : r < 10) : wrap64 m = m ∧ wrap64 x = x ∧ wrap64 (-x) = (r : Int) ∧ IntKind.i64.wrap (-x) = (r : Int) ∧ -x = (r : Int) := by
  refine ⟨?_, ?_, ?_, (IntWalk.i64_in _ (by omega)).trans (by omega), by omega⟩ <;> (unfold wrap64; omega)
theorem wr9 {r : Nat} (h : r < 10) : wrap64 (r : Int) = (r : Int) := by unfold wrap64; omega
theorem d3_len {k : Nat} (h : k ≤ 9223372036854775808) : (dig k).length ≤ 20 := dig_len 19 k (by omega)

set_option maxRecDepth 20000 in
set_option maxHeartbeats 2000000 in
theorem digs3_neg : ∀ (B k : Nat) (n : Int) (w : World), n = -(k : Int) → 0 < k → k ≤ B → k ≤ 9223372036854775808 →
    Calls Tryz.prog 54 #[.int .i64 n] w fun e w' => e = .returned (.string (str (45 :: dig k))) ∧ Below w.heap.size w w' := by
  intro B
  induction B with
  | zero => intro k n w _ h0 h1 _; omega
  | succ B ih =>
    intro k n w hn h0 hB hk
    obtain ⟨d0, hs, hl⟩ := d3_facts hn h0 hk
    by_cases h9 : k < 10
    · obtain ⟨d1, w1, w2, w3⟩ := hs h9
      have w4 := wr9 h9
      have HD := hid (fun wx => rDig_c k k wx (Nat.le_refl _) (by omega))
      have hap : (⟨#[45]⟩ : ByteArray) ++ str (dig k) = str (45 :: dig k) := vstr_app [45] (dig k)
      have k1 : ¬ 9223372036854775807 < 1 + (str (dig k)).size := by rw [str_size]; have := d3_len hk; omega
      clear hs hl ih h9 hB hk h0 hn
      go_enter Tryz.func54, Tryz.ntmps54
      go_wp2_with fail
      refine (HD.out _).mono ?_
      rintro e w2 ⟨rfl, hb2⟩
      go_wp2
      go_ret
      exact ⟨by rw [← hap]; rfl, hb2⟩
    · obtain ⟨d1, e1, e2⟩ := hl (by omega)
      obtain ⟨m, hm⟩ : ∃ m, m = Int.tdiv n 10 := ⟨_, rfl⟩
      obtain ⟨x, hx⟩ : ∃ x, x = Int.tmod n 10 := ⟨_, rfl⟩
      rw [← hm] at e1
      rw [← hx] at e2
      have hq10 : k / 10 ≤ 922337203685477580 := by omega
      have hr10 : k % 10 < 10 := by omega
      have HD := hid (fun wx => rDig_c (k % 10) (k % 10) wx (Nat.le_refl _) (by omega))
      have HI := hid (fun wx => ih (k / 10) m wx e1 (by omega) (by omega) (by omega))
      have hap : str (45 :: dig (k / 10)) ++ str (dig (k % 10)) = str (45 :: dig k) := by
        rw [vstr_app, dig_small (n := k % 10) (by omega), dig_big h9]; rfl
      have k1 : ¬ 9223372036854775807 < (str (45 :: dig (k / 10))).size + (str (dig (k % 10))).size := by
        rw [str_size, str_size]
        have h1 := d3_len (k := k / 10) (by omega)
        have h2 := d3_len (k := k % 10) (by omega)
        simp only [List.length_cons]
        omega
      obtain ⟨v1, v2, v3, v4, v5⟩ := d3_more (q := k / 10) (r := k % 10) e1 e2 hq10 hr10
      have v6 := wr9 hr10
      have hm' := hm.symm
      have hx' := hx.symm
      clear hq10 hr10
      generalize hr : k % 10 = r at *
      generalize hq : k / 10 = q at *
      have HAP := hid hap
      clear hs hl ih h9 hB hk h0 hn hm hx e1 e2 hap hr hq
      go_enter Tryz.func54, Tryz.ntmps54
      go_wp2_with fail
      refine (HI.out _).mono ?_
      rintro e w2 ⟨rfl, hb2⟩
      go_wp2_with fail
      refine (HD.out _).mono ?_
      rintro e w3 ⟨rfl, hb3⟩
      have hb4 := hb2.trans (hb3.mono hb2.size)
      go_wp2
      go_ret
      exact ⟨by rw [← HAP.out]; rfl, hb4⟩
theorem digs3_c (n : Int) (h1 : -9223372036854775808 ≤ n) (h2 : n ≤ 9223372036854775807) (w : World) :
    Calls Tryz.prog 54 #[.int .i64 n] w fun e w' => e = .returned (.string (str (digI n))) ∧ Below w.heap.size w w' := by
  by_cases hn : n < 0
  · have h : digI n = 45 :: dig n.natAbs := by unfold digI; rw [if_pos hn]
    rw [h]
    exact digs3_neg n.natAbs n.natAbs n w (by omega) (by omega) (Nat.le_refl _) (by omega)
  · obtain ⟨k, rfl⟩ : ∃ k : Nat, n = (k : Int) := ⟨n.toNat, by omega⟩
    have h : digI (k : Int) = dig k := by unfold digI; rw [if_neg hn]; simp
    rw [h]
    have HD := hid (fun wx => rDig_c k k wx (Nat.le_refl _) (by omega))
    have d0 : decide (0 ≤ (k : Int)) = true := by simp
    clear h1 h2 hn h
    go_enter Tryz.func54, Tryz.ntmps54
    go_wp2_with fail
    refine (HD.out _).mono ?_
    rintro e w2 ⟨rfl, hb2⟩
    go_wp2
    go_ret
    exact ⟨rfl, hb2⟩
end Go.Proofs.YtomgpkklbhdgiaaGreatDoor
