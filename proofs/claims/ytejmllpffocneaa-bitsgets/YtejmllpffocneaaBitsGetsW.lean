/- The walk of BitsGets: it answers true, whatever the input. -/
import Derived.Test.YtejmllpffocneaaBtF
namespace Go.Proofs.Ytejmllpffocneaa
open Go.RowKit Go.ChangeShapes Go.WideShapes Go.ChangeAt

set_option maxRecDepth 100000 in
set_option maxHeartbeats 16000000 in
theorem walkBitsGets (A : Option Addr) (n c : Nat) (z0 : List Int) (N : Int) (w : World) (w0 : IsRow .u8 w A n c z0) (w1 : (Lit.int .i64 N).wf = true) :
    Calls Try.prog 4 #[.slice A n c, .int .i64 N] w fun e w' => e = .returned (.bool true) ∧ Below w.heap.size w w' := by
  obtain ⟨b, hb, hc, _⟩ := argB w0
  have hb' : b.length = n := hb.len
  subst hb'
  have HL : Hid (Bts w 0 w.heap.size A b.length b) := hid hb
  have HC := hid hc
  have HNN := hid (wf_i64 w1)
  clear w0 w1 hb hc
  go_enter Try.func4, Try.ntmps4
  go_wp2_with fail
  refine (btfirst_c w).mono ?_
  rintro e w1 ⟨rfl, hb1⟩
  have HB1 := hid hb1
  clear hb1
  by_cases hbig : 600 < b.length
  · have e1 : decide ((600 : Int) < (b.length : Int)) = true := decide_eq_true (by omega)
    have e2 : decide (600 < b.length) = true := decide_eq_true hbig
    clear hbig
    go_wp2
    go_ret
    exact ⟨rfl, HB1.out⟩
  have e1 : decide ((600 : Int) < (b.length : Int)) = false := decide_eq_false (by omega)
  have e2 : decide (600 < b.length) = false := decide_eq_false hbig
  have HN : Hid (b.length ≤ 600) := hid (by omega)
  clear hbig
  go_wp2_with fail
  clear e1 e2
  refine (btget_c (w := w1) (b := b) ((HL.out.below HB1.out (Nat.le_refl _)).wide (Nat.le_refl _) HB1.out.size) HC.out (by have := HN.out; omega) N HNN.out).mono ?_
  rintro e w2 ⟨l2, ok2, A2, c2, rfl, hg2, ho2, hc2, hb2⟩
  have HB2 : Hid (Below w.heap.size w w2) := hid (HB1.out.trans (hb2.mono HB1.out.size))
  have HO2 := hid ho2
  have HG2 := hid hg2
  clear hb2 ho2 hg2 hc2
  go_wp2_with fail
  refine (rbtget_c (w := w2) (b := b) ((HL.out.below HB2.out (Nat.le_refl _)).wide (Nat.le_refl _) HB2.out.size) HC.out (by have := HN.out; omega) N HNN.out).mono ?_
  rintro e w3 ⟨l3, ok3, A3, c3, rfl, hg3, ho3, hc3, hb3⟩
  obtain ⟨rfl, rfl⟩ := HG2.out.isIt hg3
  have HLL : Hid (l3.length ≤ 256) := hid (by
    rcases hg3 with ⟨_, h1, h2, h3, _⟩ | ⟨_, h1, _⟩
    · omega
    · rw [h1]; exact Nat.zero_le _)
  have HB3 : Hid (Below w.heap.size w w3) := hid (HB2.out.trans (hb3.mono HB2.out.size))
  have HO3 := hid ho3
  have HP3 := hid ((HO2.out.below hb3 (Nat.le_refl _)).wide (Nat.le_refl _) hb3.size)
  clear hb3 ho3 hg3 hc3 HG2 HO2
  have hsame := isame_c (w := w3) (c := c2) (d := c3) (a := l3) (b := l3) HP3.out HO3.out (by have := HLL.out; omega) (by have := HLL.out; omega)
  cases ok3 with
  | false =>
    go_wp2_with fail
    refine hsame.mono ?_
    rintro e w4 ⟨rfl, hb4⟩
    have HB4 : Hid (Below w.heap.size w w4) := hid (HB3.out.trans (hb4.mono HB3.out.size))
    have q1 : decide (l3 = l3) = true := decide_eq_true rfl
    clear hb4 hsame
    go_wp2
    go_ret
    exact ⟨rfl, HB4.out⟩
  | true =>
    go_wp2_with fail
    refine hsame.mono ?_
    rintro e w4 ⟨rfl, hb4⟩
    have HB4 : Hid (Below w.heap.size w w4) := hid (HB3.out.trans (hb4.mono HB3.out.size))
    have q1 : decide (l3 = l3) = true := decide_eq_true rfl
    clear hb4 hsame
    go_wp2
    go_ret
    exact ⟨rfl, HB4.out⟩
end Go.Proofs.Ytejmllpffocneaa
