/- What strongroomref11.Put and Same return. Nothing is assumed. -/
import Derived.Test.YtejmllpffocneaaRuW
import Derived.Test.YtejmllpffocneaaPkRef
namespace Go.Proofs.Ytejmllpffocneaa
open Go.RowKit

theorem bdQr {B : Nat} {a w : World} (n : Nat) (h : Below B a w) : Below B a (w.drewN n) := ⟨h.os, h.tape, h.output, h.size, h.block⟩
theorem same_stepI {a b : List Int} {j : Nat} (ha : j < a.length) (hb : j < b.length) (h : a.take j = b.take j) : (a[j] = b[j] → a.take (j + 1) = b.take (j + 1)) ∧ (a[j] ≠ b[j] → a ≠ b) := by
  refine ⟨fun e => by rw [List.take_succ_eq_append_getElem ha, List.take_succ_eq_append_getElem hb, h, e], fun e e2 => e (by subst e2; rfl)⟩
set_option maxRecDepth 100000 in
set_option maxHeartbeats 8000000 in
theorem isame_c {w : World} {n m c d : Nat} {A B : Option Addr} {a b : List Int} (ha : Lst w 0 w.heap.size A n (ics a)) (hb : Lst w 0 w.heap.size B m (ics b)) (hn : n ≤ 1000000) (_hm : m ≤ 1000000) :
    Calls Try.prog 10 #[.slice A n c, .slice B m d] w fun e w' => e = .returned (.bool (decide (a = b))) ∧ Below w.heap.size w w' := by
  have hla : a.length = n := by have := ha.1; rwa [ics_len] at this
  have hlb : b.length = m := by have := hb.1; rwa [ics_len] at this
  have HA := hid ha
  have HB := hid hb
  have HN := hid hn
  clear ha hb hn
  by_cases hl : n = m
  · subst hl
    have e1 : ((n : Int) != (n : Int)) = false := by simp
    have HL := hid (And.intro hla hlb)
    clear hla hlb
    go_enter Try.func10, Try.ntmps10
    go_wp2_with fail
    clear e1
    go_loopg [13] n (fun kk iv wr => ∃ j : Nat, iv = .int .i64 (j : Int) ∧ Hid (kk = n - j) ∧ Hid (j ≤ n) ∧ Hid (Below w.heap.size w wr) ∧ Hid (a.take j = b.take j))
    case atStart => exact ⟨0, rfl, hid rfl, hid (Nat.zero_le _), hid (Below.refl _ _), hid rfl⟩
    case round =>
      obtain ⟨j, rfl, hgk, hj, hBW, hT⟩ := hrel
      rename World => wr
      rcases Nat.lt_or_ge j n with hlt | hge
      · have hla2 : j < a.length := by rw [HL.out.1]; exact hlt
        have hlb2 : j < b.length := by rw [HL.out.2]; exact hlt
        have j1 : (0 : Int) ≤ (j : Int) := by omega
        have j2 : (j : Int) < (n : Int) := by omega
        have j3 : decide ((j : Int) < (n : Int)) = true := by simpa using hlt
        have wj : wrap64 ((j : Int) + 1) = ((j + 1 : Nat) : Int) := by have := HN.out; unfold wrap64; omega
        have HJ := hid hlt
        obtain ⟨ga, oa, rfl, _, hga, hca⟩ := lst_i (HA.out.below hBW.out (Nat.le_refl _)) hla2
        obtain ⟨gb, ob, rfl, _, hgb, hcb⟩ := lst_i (HB.out.below hBW.out (Nat.le_refl _)) hlb2
        have HS := hid (same_stepI hla2 hlb2 hT.out)
        generalize a[j] = x at *
        generalize b[j] = y at *
        clear hlt hla2 hlb2
        by_cases hxy : x = y
        · have z : (x != y) = false := by rw [hxy]; simp
          have HT := hid (HS.out.1 hxy)
          subst hxy
          go_wp2_with fail
          go_quiet (fail)
          have HBW := hid (bdQr nq hBW.out)
          generalize wr.drewN nq = W at *
          go_wp2_with fail
          go_roundg (n - (j + 1))
          case measure => exact meas_j hgk.out HJ.out
          case rel => exact ⟨j + 1, by first | rfl | rw [wj], hid rfl, hid HJ.out, HBW, HT⟩
        · have z : (x != y) = true := by simpa using hxy
          have z2 : (x == y) = false := beq_eq_false_iff_ne.2 hxy
          have z3 : (!(x == y)) = true := by rw [z2]; rfl
          have HD : Hid (decide (a = b) = false) := hid (decide_eq_false (HS.out.2 hxy))
          go_wp2_with fail
          go_quiet (fail)
          go_wp2
          go_ret
          exact ⟨by rw [HD.out]; rfl, bdQr _ hBW.out⟩
      · have hjn : j = n := by have := hj.out; omega
        subst hjn
        have j2 : ¬ (j : Int) < (j : Int) := by omega
        have HD : Hid (decide (a = b) = true) := hid (decide_eq_true (by have := hT.out; rwa [List.take_of_length_le (Nat.le_of_eq HL.out.1), List.take_of_length_le (Nat.le_of_eq HL.out.2)] at this))
        clear hge hj hgk
        go_wp2
        go_ret
        exact ⟨by rw [HD.out]; rfl, hBW.out⟩
  · have e1 : ((n : Int) != (m : Int)) = true := by simp; omega
    have e2 : ¬ (n : Int) = (m : Int) := by omega
    have HD : Hid (decide (a = b) = false) := hid (decide_eq_false fun e => hl (by rw [← hla, ← hlb, e]))
    go_enter Try.func10, Try.ntmps10
    go_wp2
    go_ret
    exact ⟨by rw [HD.out]; rfl, Below.refl _ _⟩
end Go.Proofs.Ytejmllpffocneaa
