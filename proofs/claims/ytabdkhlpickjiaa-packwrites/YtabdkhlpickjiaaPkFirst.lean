/- What the statements of package pack ask ahead of everything else (their function first) is answered: true, and nothing that was there has turned. -/
import Derived.Test.YtabdkhlpickjiaaPkW2
namespace Go.Proofs.Ytabdkhlpickjiaa
open Go.RowKit

theorem nat5 : nat (fold (-3)) = [5] := by rw [nat_small (by decide)]; decide
theorem nat300 : nat 300 = [172, 2] := by rw [nat_big (by decide), nat_small (by decide)]; decide
theorem nat2 : nat 2 = [2] := by rw [nat_small (by decide)]; decide

theorem rdx : rd [128, 0] = (0, 0) := by decide

theorem lit_str {w : World} {lo hi n c : Nat} {A : Option Addr} {l : List UInt8} (s : ByteArray) (h : Bts w lo hi A n l) (hs : str l = s) : (convert 22 9 (.slice A n c)).run Try.prog w = .ok (.string s) w := by
  rw [← hs]
  exact run_str 22 9 5 Try.underlying22 Try.underlying5 Try.underlying9 h

set_option maxHeartbeats 1000000 in
theorem first_c (w : World) : Calls Try.prog 8 #[] w fun e w' => e = .returned (.bool true) ∧ Below w.heap.size w w' := by
  go_enter Try.func8, Try.ntmps8
  go_wp2_with fail
  refine (open_c _ 2 2 [128, 0] _ ((Bts.lit w 5 [128, 0]).wide (by omega) (by simp)) (by omega)).mono ?_
  rintro e w1 ⟨g, rfl, hrd, hsz, hb1⟩
  have hb : Below w.heap.size w w1 := ((Below.refl _ _).alloc (Nat.le_refl _) _).trans (hb1.mono (by simp))
  clear hb1
  have hlt := hrd.lt
  have hsz1 := hb.size
  have hwg : w.heap.size ≤ g := by obtain ⟨_, _, _, _, _, h, _⟩ := hrd; simp at h; omega
  have Hsz := hid hsz
  clear hsz
  go_wp2_with fail
  refine (rnat_none w1 _ g [128, 0] hrd (by rw [rdx])).mono ?_
  rintro e w2 ⟨rfl, hbad, hg2⟩
  have hb2 : Below w.heap.size w w2 := hb.grown hg2 hsz1 (fun k hk => by injection hk with hk; omega)
  have hsz2 := hg2.size
  clear hrd hb hg2
  go_wp2_with fail
  refine (number_c none 0 0 (-3) [] w2 (Bts.nil _ _ _ _) (by omega) (by omega) (by omega)).mono ?_
  rintro e w3 ⟨A3, c3, rfl, hc3, ho3, hb3⟩
  rw [List.nil_append, nat5] at *
  have hs3 : (convert 22 9 (.slice A3 1 c3)).run Try.prog w3 = .ok (.string ⟨#[5]⟩) w3 := lit_str (c := c3) ⟨#[5]⟩ (Bts.own ho3) rfl
  have hsz3 := hb3.size
  go_wp2_with fail
  refine (natural_c none 0 0 300 [] w3 (Bts.nil _ _ _ _) (by omega) (by omega)).mono ?_
  rintro e w4 ⟨A4, c4, rfl, hc4, ho4, hb4⟩
  rw [List.nil_append, nat300] at *
  have hs4 : (convert 22 9 (.slice A4 2 c4)).run Try.prog w4 = .ok (.string ⟨#[172, 2]⟩) w4 := lit_str (c := c4) ⟨#[172, 2]⟩ (Bts.own ho4) rfl
  have hsz4 := hb4.size
  have kc := fun (w : World) (C : Array Value) (n c : Nat) => Lib.run_convert_bytes_const (P := Try.prog) w 22 5 C n c Try.underlying22 Try.underlying5
  go_wp2_with fail
  refine (text_c _ 1 1 ⟨#[97, 98]⟩ [120] _ ((Bts.litM w4 5 [120] _).wide (by omega) (by simp)) (by omega) (by decide)).mono ?_
  rintro e w5 ⟨A5, c5, rfl, hc5, ho5, hb5⟩
  rw [show ByteArray.size ⟨#[97, 98]⟩ = 2 from rfl, nat2] at *
  have hs5 : (convert 22 9 (.slice A5 4 c5)).run Try.prog w5 = .ok (.string ⟨#[120, 2, 97, 98]⟩) w5 := lit_str (c := c5) ⟨#[120, 2, 97, 98]⟩ (Bts.own ho5) rfl
  have hb45 : Below w4.heap.size w4 w5 := ((Below.refl _ _).alloc (Nat.le_refl _) _).trans (hb5.mono (by simp))
  have hbad5 : Bad w5 g := Blk.keep hbad (by
    rw [hb45.block g (by omega), hb4.block g (by omega), hb3.block g (by omega)])
  clear kc
  go_wp2_with fail
  refine (done_bad w5 g hbad5).mono ?_
  rintro e w6 ⟨rfl, rfl⟩
  go_wp2
  go_ret
  exact ⟨rfl, ((hb2.trans (hb3.mono (by omega))).trans (hb4.mono (by omega))).trans (hb45.mono (by omega))⟩
end Go.Proofs.Ytabdkhlpickjiaa
