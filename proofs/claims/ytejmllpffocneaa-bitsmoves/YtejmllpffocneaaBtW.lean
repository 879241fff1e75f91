/- What slices.Min, slices.Max and the small functions of package bits return. Nothing is assumed. -/
import Derived.Test.YtejmllpffocneaaBtMath
import Derived.Test.YtejmllpffocneaaInts
import Derived.Test.YtejmllpffocneaaBmW
namespace Go.Proofs.Ytejmllpffocneaa
open Go.RowKit

theorem take_ne {l : List Int} {j : Nat} (h : 0 < j) (h2 : j < l.length) : l.take j ≠ [] := fun e => by
  have := congrArg List.length e
  rw [List.length_take, List.length_nil] at this
  omega
set_option maxRecDepth 100000 in
set_option maxHeartbeats 8000000 in
theorem min_c {w : World} {n c : Nat} {A : Option Addr} {l : List Int} (h : Lst w 0 w.heap.size A n (ics l)) (h0 : 0 < n) (hn : n ≤ 1000000) :
    Calls Try.prog 13 #[.slice A n c] w fun e w' => e = .returned (.int .i64 (mnL l)) ∧ w = w' := by
  have HLL : Hid (l.length = n) := hid (by have := h.1; rwa [ics_len] at this)
  obtain ⟨g0, o0, rfl, _, _, hc0⟩ := lst_i h (j := 0) (by have := HLL.out; omega)
  have HL := hid h
  have HN := hid hn
  have H1 : Hid (mnL (l.take 1) = l[0]'(by have := HLL.out; omega)) := hid (by
    cases l with
    | nil => have := HLL.out; simp at this; omega
    | cons x t => rfl)
  generalize l[0]'(by have := HLL.out; omega) = x0 at *
  rw [Nat.add_zero] at hc0
  have e0 : ((n : Int) < 1) = False := by simp; omega
  have e1 : decide ((n : Int) < 1) = false := decide_eq_false (by omega)
  have e3 : (0 : Int) < (n : Int) := by omega
  have HN0 := hid h0
  clear h hn
  go_enter Try.func13, Try.ntmps13
  go_wp2_with fail
  clear e0 e1 hc0 e3
  go_loopg [3, 4] (n - 1) (fun kk mv iv wr => ∃ (j : Nat) (M : Int), mv = .int .i64 M ∧ iv = .int .i64 (j : Int) ∧ Hid (kk = n - j) ∧ Hid (0 < j ∧ j ≤ n) ∧ Hid (mnL (l.take j) = M) ∧ wr = w)
  case atStart => exact ⟨1, x0, rfl, rfl, hid rfl, hid ⟨by decide, HN0.out⟩, H1, rfl⟩
  case round =>
    obtain ⟨j, M, rfl, rfl, hgk, hj, hM, rfl⟩ := hrel
    rename World => w
    rcases Nat.lt_or_ge j n with hlt | hge
    · have hjl : j < l.length := by rw [HLL.out]; exact hlt
      have j1 : (0 : Int) ≤ (j : Int) := by omega
      have j2 : (j : Int) < (n : Int) := by omega
      have j3 : decide ((j : Int) < (n : Int)) = true := by simpa using hlt
      have wj : wrap64 ((j : Int) + 1) = ((j + 1 : Nat) : Int) := by have := HN.out; unfold wrap64; omega
      obtain ⟨g, off, e, _, _, hcell⟩ := lst_i HL.out hjl
      injection e with e
      injection e with e1 e2
      subst e1 e2
      have HJ := hid hlt
      have HM2 : Hid (mnL (l.take (j + 1)) = min M l[j]) := hid (by
        rw [take_snoc hjl, mnL_snoc (take_ne hj.out.1 hjl), hM.out])
      generalize l[j] = x at *
      clear hlt hjl hM
      obtain ⟨m, hm⟩ : ∃ m, min M x = m := ⟨_, rfl⟩
      rw [hm] at HM2
      have hmi : (if x < M then x else M) = m := by rw [← hm]; split <;> omega
      have hmj : (if M < x then M else x) = m := by rw [← hm]; split <;> omega
      clear hm
      go_wp2_with fail
      go_roundg (n - (j + 1))
      case measure => exact meas_j hgk.out HJ.out
      case rel => exact ⟨j + 1, m, rfl, by first | rfl | rw [wj], hid rfl, hid ⟨Nat.succ_pos j, HJ.out⟩, HM2, rfl⟩
    · have hjn : j = n := by have := hj.out.2; omega
      subst hjn
      have j2 : ¬ (j : Int) < (j : Int) := by omega
      have HF : Hid (mnL l = M) := hid (by have := hM.out; rwa [List.take_of_length_le (Nat.le_of_eq HLL.out)] at this)
      clear hge hj hgk hM
      go_wp2
      go_ret
      exact ⟨congrArg (fun z : Int => Ending.returned (Value.int .i64 z)) HF.out.symm, rfl⟩
set_option maxRecDepth 100000 in
set_option maxHeartbeats 8000000 in
theorem max_c {w : World} {n c : Nat} {A : Option Addr} {l : List Int} (h : Lst w 0 w.heap.size A n (ics l)) (h0 : 0 < n) (hn : n ≤ 1000000) :
    Calls Try.prog 15 #[.slice A n c] w fun e w' => e = .returned (.int .i64 (mxL l)) ∧ w = w' := by
  have HLL : Hid (l.length = n) := hid (by have := h.1; rwa [ics_len] at this)
  obtain ⟨g0, o0, rfl, _, _, hc0⟩ := lst_i h (j := 0) (by have := HLL.out; omega)
  have HL := hid h
  have HN := hid hn
  have H1 : Hid (mxL (l.take 1) = l[0]'(by have := HLL.out; omega)) := hid (by
    cases l with
    | nil => have := HLL.out; simp at this; omega
    | cons x t => rfl)
  generalize l[0]'(by have := HLL.out; omega) = x0 at *
  rw [Nat.add_zero] at hc0
  have e0 : ((n : Int) < 1) = False := by simp; omega
  have e1 : decide ((n : Int) < 1) = false := decide_eq_false (by omega)
  have e3 : (0 : Int) < (n : Int) := by omega
  have HN0 := hid h0
  clear h hn
  go_enter Try.func15, Try.ntmps15
  go_wp2_with fail
  clear e0 e1 hc0 e3
  go_loopg [3, 4] (n - 1) (fun kk mv iv wr => ∃ (j : Nat) (M : Int), mv = .int .i64 M ∧ iv = .int .i64 (j : Int) ∧ Hid (kk = n - j) ∧ Hid (0 < j ∧ j ≤ n) ∧ Hid (mxL (l.take j) = M) ∧ wr = w)
  case atStart => exact ⟨1, x0, rfl, rfl, hid rfl, hid ⟨by decide, HN0.out⟩, H1, rfl⟩
  case round =>
    obtain ⟨j, M, rfl, rfl, hgk, hj, hM, rfl⟩ := hrel
    rename World => w
    rcases Nat.lt_or_ge j n with hlt | hge
    · have hjl : j < l.length := by rw [HLL.out]; exact hlt
      have j1 : (0 : Int) ≤ (j : Int) := by omega
      have j2 : (j : Int) < (n : Int) := by omega
      have j3 : decide ((j : Int) < (n : Int)) = true := by simpa using hlt
      have wj : wrap64 ((j : Int) + 1) = ((j + 1 : Nat) : Int) := by have := HN.out; unfold wrap64; omega
      obtain ⟨g, off, e, _, _, hcell⟩ := lst_i HL.out hjl
      injection e with e
      injection e with e1 e2
      subst e1 e2
      have HJ := hid hlt
      have HM2 : Hid (mxL (l.take (j + 1)) = max M l[j]) := hid (by
        rw [take_snoc hjl, mxL_snoc (take_ne hj.out.1 hjl), hM.out])
      generalize l[j] = x at *
      clear hlt hjl hM
      obtain ⟨m, hm⟩ : ∃ m, max M x = m := ⟨_, rfl⟩
      rw [hm] at HM2
      have hmi : (if M < x then x else M) = m := by rw [← hm]; split <;> omega
      have hmj : (if x < M then M else x) = m := by rw [← hm]; split <;> omega
      clear hm
      go_wp2_with fail
      go_roundg (n - (j + 1))
      case measure => exact meas_j hgk.out HJ.out
      case rel => exact ⟨j + 1, m, rfl, by first | rfl | rw [wj], hid rfl, hid ⟨Nat.succ_pos j, HJ.out⟩, HM2, rfl⟩
    · have hjn : j = n := by have := hj.out.2; omega
      subst hjn
      have j2 : ¬ (j : Int) < (j : Int) := by omega
      have HF : Hid (mxL l = M) := hid (by have := hM.out; rwa [List.take_of_length_le (Nat.le_of_eq HLL.out)] at this)
      clear hge hj hgk hM
      go_wp2
      go_ret
      exact ⟨congrArg (fun z : Int => Ending.returned (Value.int .i64 z)) HF.out.symm, rfl⟩
end Go.Proofs.Ytejmllpffocneaa
