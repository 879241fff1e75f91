/- What strongroomlaw10.first returns: yes. Nothing is assumed. -/
import Derived.Test.YtdkbpjkoiegflaaBmT
import Derived.Test.YtdkbpjkoiegflaaBmS
namespace Go.Proofs.Ytdkbpjkoiegflaa
open Go.RowKit

theorem bm_str {w : World} {base A : _} {c : Nat} {l : List UInt8} (h : w.ownsRow base 5 1 (.slice A l.length c) l.length (bs l)) : (convert 24 9 (.slice A l.length c)).run Try.prog w = .ok (.string (str l)) w :=
  run_str (P := Try.prog) (c := c) 24 9 5 Try.underlying24 Try.underlying5 Try.underlying9 (Bts.own h)
theorem bls_lit (w : World) (l : List Bool) : Lst (w.alloc (.cells (bls l).toArray 4)) 0 (w.alloc (.cells (bls l).toArray 4)).heap.size (some ⟨w.heap.size, 0, none⟩) l.length (bls l) :=
  ⟨bls_len l, fun _ => ⟨w.heap.size, 0, rfl, Nat.zero_le _, by simp, fun j u hu => by
    rw [Nat.zero_add, (Blk.new w 4 (bls l).toArray).cell j, List.getElem?_toArray]
    exact hu⟩⟩
theorem bts_lit (w : World) (l : List UInt8) : Bts (w.alloc (.cells (bs l).toArray 5)) 0 (w.alloc (.cells (bs l).toArray 5)).heap.size (some ⟨w.heap.size, 0, none⟩) l.length l := (Bts.lit w 5 l).wide (Nat.zero_le _) (by simp)
theorem bf_1 : bgO [5] 3 = true ∧ bgX [5] 3 = [true, false, true] ∧ bgO [5] 2 = false ∧ bmP [true, false, true] = [5] ∧ bmC [5, 255] = 10 := by
  have h1 : bgO [5] 3 = true := (bgO_of (b := [5]) (n := 3) (by decide)).trans (by decide)
  have h2 : bgO [5] 2 = false := (bgO_of (b := [5]) (n := 2) (by decide)).trans (by decide)
  refine ⟨h1, ?_, h2, by decide, by decide⟩
  unfold bgX
  rw [h1]
  decide
set_option maxRecDepth 100000 in
set_option maxHeartbeats 16000000 in
theorem bfirst_c (w : World) : Calls Try.prog 6 #[] w fun e w' => e = .returned (.bool true) ∧ Below w.heap.size w w' := by
  obtain ⟨h1, h2, h3, h4, h5⟩ := bf_1
  have H1 := hid h1
  have H2 := hid h2
  have H3 := hid h3
  have H4 := hid h4
  have H5 := hid h5
  clear h1 h2 h3 h4 h5
  go_enter Try.func6, Try.ntmps6
  go_wp2_with fail
  refine (bget_c (bts_lit w [5]) (by decide) 3 (by decide)).mono ?_
  rintro e w1 ⟨A1, c1, rfl, ho1, hb1⟩
  have HB1 : Hid (Below w.heap.size w w1) := hid (((Below.refl _ _).alloc (Nat.le_refl _) _).trans (hb1.mono (by simp)))
  rw [H2.out] at ho1
  rw [H1.out, H2.out]
  have HO1 := hid ho1
  clear ho1 hb1
  go_wp2_with fail
  refine (bget_c (bts_lit w1 [5]) (by decide) 2 (by decide)).mono ?_
  rintro e w2 ⟨A2, c2, rfl, -, hb2⟩
  have hb12 : Below w1.heap.size w1 w2 := ((Below.refl _ _).alloc (Nat.le_refl _) _).trans (hb2.mono (by simp))
  have HB2 : Hid (Below w.heap.size w w2) := hid (HB1.out.trans (hb12.mono HB1.out.size))
  have HO2 := hid (own_bel HO1.out hb12)
  rw [H3.out]
  clear hb2 hb12 HO1 HB1
  go_wp2_with fail
  refine (bput_c (bls_lit w2 [true, false, true]) (by decide)).mono ?_
  rintro e w3 ⟨A3, c3, rfl, hc3, ho3, hb3⟩
  have hb23 : Below w2.heap.size w2 w3 := ((Below.refl _ _).alloc (Nat.le_refl _) _).trans (hb3.mono (by simp))
  have HB3 : Hid (Below w.heap.size w w3) := hid (HB2.out.trans (hb23.mono HB2.out.size))
  have HO3 := hid (own_bel HO2.out hb23)
  have hst := bm_str ho3
  rw [H4.out] at hst ⊢
  have hst2 : (convert 24 9 (.slice A3 1 c3)).run Try.prog w3 = .ok (.string ⟨#[5]⟩) w3 := hst
  clear hb3 hb23 HO2 HB2 ho3 hst
  go_wp2_with fail
  refine (bsame_c (a := [true, false, true]) (b := [true, false, true]) (((Lst.own HO3.out).wide (Nat.zero_le _) (Nat.le_refl _)).keep ?_ |>.wide (Nat.le_refl _) (by simp)) (bls_lit w3 [true, false, true]) (by decide) (by decide)).mono ?_
  · intro k _ hk
    exact (Below.refl w3.heap.size w3 |>.alloc (Nat.le_refl _) _).block k hk
  rintro e w4 ⟨rfl, hb4⟩
  have HB4 : Hid (Below w.heap.size w w4) := hid (HB3.out.trans (((Below.refl w3.heap.size w3).alloc (Nat.le_refl _) _).trans (hb4.mono (by simp)) |>.mono HB3.out.size))
  clear hb4 HB3 HO3 hst2
  go_wp2_with fail
  refine (bcount_c (bts_lit w4 [5, 255]) (by decide)).mono ?_
  rintro e w5 ⟨rfl, rfl⟩
  rw [H5.out]
  go_wp2
  go_ret
  exact ⟨rfl, HB4.out.alloc HB4.out.size _⟩
end Go.Proofs.Ytdkbpjkoiegflaa
