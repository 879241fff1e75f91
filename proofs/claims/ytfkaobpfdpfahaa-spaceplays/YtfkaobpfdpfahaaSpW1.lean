/- What the small calls of a map return: how many blocks, whether there is one, whether it is taken; Mark and Give. -/
import Derived.Test.YtfkaobpfdpfahaaSpRep
namespace Go.Proofs.Ytfkaobpfdpfahaa
open Go.RowKit

theorem sblocks_c (w : World) (g k : Nat) (s : Sp) (h : Mp w g k s) :
    Calls Try.prog 21 #[.pointer (some ⟨g, 0, none⟩)] w fun e w' => e = .returned (.int .i64 (s.T.length : Int)) ∧ w = w' := by
  obtain ⟨h0, h1⟩ := h.cells
  clear h
  go_enter Try.func21, Try.ntmps21
  go_wp2
  go_ret
  exact ⟨rfl, rfl⟩
theorem sblocks_nil (w : World) :
    Calls Try.prog 21 #[.pointer none] w fun e w' => e = .returned (.int .i64 0) ∧ w = w' := by
  go_enter Try.func21, Try.ntmps21
  go_wp2
  go_ret
  exact ⟨rfl, rfl⟩
theorem has_c (w : World) (g k : Nat) (s : Sp) (h : Mp w g k s) (i : Int) :
    Calls Try.prog 22 #[.pointer (some ⟨g, 0, none⟩), .int .i64 i] w fun e w' => e = .returned (.bool (s.hs i)) ∧ w = w' := by
  have hb := sblocks_c w g k s h
  clear h
  have HE : Hid (s.hs i = (decide (0 ≤ i) && decide (i < (s.T.length : Int)))) := hid rfl
  by_cases h0 : 0 ≤ i
  · have e1 : decide (0 ≤ i) = true := by simpa using h0
    have e2 : decide (i ≥ 0) = true := by simpa using h0
    rw [HE.out, e1, Bool.true_and]
    clear HE h0
    go_enter Try.func22, Try.ntmps22
    go_wp2_with fail
    refine hb.mono ?_
    rintro e w' ⟨rfl, rfl⟩
    go_wp2
    go_ret
    exact ⟨rfl, rfl⟩
  · have e1 : decide (0 ≤ i) = false := by simpa using h0
    have e2 : decide (i ≥ 0) = false := by simpa using h0
    rw [HE.out, e1, Bool.false_and]
    clear HE h0
    go_enter Try.func22, Try.ntmps22
    go_wp2
    go_ret
    exact ⟨rfl, rfl⟩
theorem has_nil (w : World) (i : Int) :
    Calls Try.prog 22 #[.pointer none, .int .i64 i] w fun e w' => e = .returned (.bool false) ∧ w = w' := by
  by_cases h0 : 0 ≤ i
  · have e1 : decide (0 ≤ i) = true := by simpa using h0
    have e2 : decide (i ≥ 0) = true := by simpa using h0
    have e3 : decide (i < 0) = false := by simp; omega
    clear h0
    go_enter Try.func22, Try.ntmps22
    go_wp2_with fail
    refine (sblocks_nil w).mono ?_
    rintro e w' ⟨rfl, rfl⟩
    go_wp2
    go_ret
    exact ⟨rfl, rfl⟩
  · have e1 : decide (0 ≤ i) = false := by simpa using h0
    have e2 : decide (i ≥ 0) = false := by simpa using h0
    clear h0
    go_enter Try.func22, Try.ntmps22
    go_wp2
    go_ret
    exact ⟨rfl, rfl⟩
theorem taken_c (w : World) (g k : Nat) (s : Sp) (h : Mp w g k s) (i : Int) :
    Calls Try.prog 16 #[.pointer (some ⟨g, 0, none⟩), .int .i64 i] w fun e w' => e = .returned (.bool (s.tk i)) ∧ w = w' := by
  have hb := has_c w g k s h i
  cases hh : s.hs i with
  | false =>
    rw [s.tk_out i hh]
    rw [hh] at hb
    clear h hh
    go_enter Try.func16, Try.ntmps16
    go_wp2_with fail
    refine hb.mono ?_
    rintro e w' ⟨rfl, rfl⟩
    go_wp2
    go_ret
    exact ⟨rfl, rfl⟩
  | true =>
    rw [hh] at hb
    obtain ⟨j, b, rfl, hj, hjb⟩ := s.hs_in i hh
    rw [Sp.tk_in hjb]
    obtain ⟨h0, -⟩ := h.cells
    have hc := h.at_ hjb
    have i1 : (0 : Int) ≤ (j : Int) := by omega
    have i2 : (j : Int) < (s.T.length : Int) := by omega
    clear h hh hjb hj
    generalize s.T.length = n at *
    go_enter Try.func16, Try.ntmps16
    go_wp2_with fail
    refine hb.mono ?_
    rintro e w' ⟨rfl, rfl⟩
    go_wp2
    go_ret
    exact ⟨rfl, rfl⟩
theorem taken_nil (w : World) (i : Int) :
    Calls Try.prog 16 #[.pointer none, .int .i64 i] w fun e w' => e = .returned (.bool false) ∧ w = w' := by
  go_enter Try.func16, Try.ntmps16
  go_wp2_with fail
  refine (has_nil w i).mono ?_
  rintro e w' ⟨rfl, rfl⟩
  go_wp2
  go_ret
  exact ⟨rfl, rfl⟩
theorem mark_no (w : World) (g k : Nat) (s : Sp) (h : Mp w g k s) (i : Int) (hf : s.fr i = false) :
    Calls Try.prog 12 #[.pointer (some ⟨g, 0, none⟩), .int .i64 i] w fun e w' => e = .returned (.bool false) ∧ w = w' := by
  have hb := has_c w g k s h i
  cases hh : s.hs i with
  | false =>
    rw [hh] at hb
    clear h hh hf
    go_enter Try.func12, Try.ntmps12
    go_wp2_with fail
    refine hb.mono ?_
    rintro e w' ⟨rfl, rfl⟩
    go_wp2
    go_ret
    exact ⟨rfl, rfl⟩
  | true =>
    rw [hh] at hb
    obtain ⟨j, b, rfl, hj, hjb⟩ := s.hs_in i hh
    rw [Sp.fr_in hjb] at hf
    obtain rfl : b = true := by simpa using hf
    obtain ⟨h0, -⟩ := h.cells
    have hc := h.at_ hjb
    have i1 : (0 : Int) ≤ (j : Int) := by omega
    have i2 : (j : Int) < (s.T.length : Int) := by omega
    clear h hh hjb hj hf
    generalize s.T.length = n at *
    go_enter Try.func12, Try.ntmps12
    go_wp2_with fail
    refine hb.mono ?_
    rintro e w' ⟨rfl, rfl⟩
    go_wp2
    go_ret
    exact ⟨rfl, rfl⟩
theorem mark_yes (w : World) (g k : Nat) (s : Sp) (h : Mp w g k s) (j : Nat) (hjb : s.T[j]? = some false) :
    Calls Try.prog 12 #[.pointer (some ⟨g, 0, none⟩), .int .i64 (j : Int)] w fun e w' => e = .returned (.bool true) ∧ MLeft w w' g k (s.put j true) := by
  have hb := has_c w g k s h j
  rw [s.hs_of j (Sp.lt_of hjb)] at hb
  obtain ⟨h0, -⟩ := h.cells
  have hc := h.at_ hjb
  have hj := Sp.lt_of hjb
  have i1 : (0 : Int) ≤ (j : Int) := by omega
  have i2 : (j : Int) < (s.T.length : Int) := by omega
  have hf := h.row.frozen j
  have HL := hid (h.left j true (h.ok.put _ _ (.inl rfl)))
  clear h hjb hj
  generalize s.T.length = n at *
  go_enter Try.func12, Try.ntmps12
  go_wp2_with fail
  refine hb.mono ?_
  rintro e w' ⟨rfl, rfl⟩
  go_wp2
  go_ret
  exact ⟨rfl, HL.out⟩
theorem mark_any (w : World) (g k : Nat) (s : Sp) (h : Mp w g k s) (i : Int) :
    Calls Try.prog 12 #[.pointer (some ⟨g, 0, none⟩), .int .i64 i] w fun e w' => e = .returned (.bool (s.fr i)) ∧ MLeft w w' g k (s.mark i) := by
  cases hf : s.fr i with
  | false =>
    refine (mark_no w g k s h i hf).mono ?_
    rintro e w' ⟨rfl, rfl⟩
    exact ⟨rfl, by unfold Sp.mark; rw [hf]; exact .same h⟩
  | true =>
    obtain ⟨j, rfl, hj⟩ := (s.fr_iff i).1 hf
    refine (mark_yes w g k s h j hj).mono ?_
    rintro e w' ⟨rfl, hL⟩
    exact ⟨rfl, by unfold Sp.mark; rw [hf]; exact hL⟩
theorem mark_nil (w : World) (i : Int) :
    Calls Try.prog 12 #[.pointer none, .int .i64 i] w fun e w' => e = .returned (.bool false) ∧ w = w' := by
  go_enter Try.func12, Try.ntmps12
  go_wp2_with fail
  refine (has_nil w i).mono ?_
  rintro e w' ⟨rfl, rfl⟩
  go_wp2
  go_ret
  exact ⟨rfl, rfl⟩
theorem give_any (w : World) (g k : Nat) (s : Sp) (h : Mp w g k s) (i : Int) :
    Calls Try.prog 14 #[.pointer (some ⟨g, 0, none⟩), .int .i64 i] w fun e w' => e = .returned (.bool (s.gv i)) ∧ MLeft w w' g k (s.give i) := by
  have hb := taken_c w g k s h i
  obtain ⟨h0, h1⟩ := h.cells
  cases hg : s.gv i with
  | true =>
    obtain ⟨j, rfl, hjb, hr⟩ := (s.gv_iff i).1 hg
    rw [Sp.tk_in hjb] at hb
    have hc := h.at_ hjb
    have hj := Sp.lt_of hjb
    have i1 : (0 : Int) ≤ (j : Int) := by omega
    have i2 : (j : Int) < (s.T.length : Int) := by omega
    have i3 : decide ((j : Int) < (s.r : Int)) = false := by simp; omega
    have i4 : decide (j < s.r) = false := by simp; omega
    have hf := h.row.frozen j
    have HL : Hid (MLeft w (w.setCell ⟨k, j, none⟩ (.bool false)) g k (s.give j)) := hid (by unfold Sp.give; rw [hg]; exact h.left j false (h.ok.put _ _ (.inr hr)))
    clear h hjb hj hg hr
    generalize s.T.length = n at *
    go_enter Try.func14, Try.ntmps14
    go_wp2_with fail
    refine hb.mono ?_
    rintro e w' ⟨rfl, rfl⟩
    go_wp2
    go_ret
    exact ⟨rfl, HL.out⟩
  | false =>
    have HL : Hid (MLeft w w g k (s.give i)) := hid (by unfold Sp.give; rw [hg]; exact .same h)
    unfold Sp.gv at hg
    cases ht : s.tk i with
    | false =>
      rw [ht] at hb
      clear h hg ht
      go_enter Try.func14, Try.ntmps14
      go_wp2_with fail
      refine hb.mono ?_
      rintro e w' ⟨rfl, rfl⟩
      go_wp2
      go_ret
      exact ⟨rfl, HL.out⟩
    | true =>
      rw [ht] at hb hg
      have i3 : decide (i < (s.r : Int)) = true := by simpa using hg
      clear h hg ht
      go_enter Try.func14, Try.ntmps14
      go_wp2_with fail
      refine hb.mono ?_
      rintro e w' ⟨rfl, rfl⟩
      go_wp2
      go_ret
      exact ⟨rfl, HL.out⟩
theorem give_nil (w : World) (i : Int) :
    Calls Try.prog 14 #[.pointer none, .int .i64 i] w fun e w' => e = .returned (.bool false) ∧ w = w' := by
  go_enter Try.func14, Try.ntmps14
  go_wp2_with fail
  refine (taken_nil w i).mono ?_
  rintro e w' ⟨rfl, rfl⟩
  go_wp2
  go_ret
  exact ⟨rfl, rfl⟩
end Go.Proofs.Ytfkaobpfdpfahaa
