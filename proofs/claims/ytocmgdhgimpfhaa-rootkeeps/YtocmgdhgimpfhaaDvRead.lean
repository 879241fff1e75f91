/- What Read of a device returns: a block's bytes by its last write, in new memory, or an error. -/
import Derived.Test.YtocmgdhgimpfhaaDvNew
namespace Go.Proofs.Ytocmgdhgimpfhaa
open Go.RowKit

set_option maxRecDepth 100000 in
theorem read_nil (w : World) (i : Int) :
    Calls Try.prog 19 #[.pointer none, .int .i64 i] w fun e w' => e = .returned (.tuple #[.slice none 0 0, .int .i64 1]) ∧ w = w' := by
  go_enter Try.func19, Try.ntmps19
  go_wp2_with fail
  refine (wrong_nil w i _ _ _).mono ?_
  rintro e w' ⟨rfl, rfl⟩
  go_wp2
  go_ret2
  exact ⟨rfl, rfl⟩
set_option maxRecDepth 100000 in
theorem read_bad (w : World) (F : Nat → Prop) (g : Nat) (s : St) (h : Dev w F g s) (i : Int) (hb : bad s i 0) :
    Calls Try.prog 19 #[.pointer (some ⟨g, 0, none⟩), .int .i64 i] w fun e w' => e = .returned (.tuple #[.slice none 0 0, .int .i64 2]) ∧ w = w' := by
  have hw := wrong_bad w F g s h i none 0 0 hb
  clear h hb
  go_enter Try.func19, Try.ntmps19
  go_wp2_with fail
  refine hw.mono ?_
  rintro e w' ⟨rfl, rfl⟩
  go_wp2
  go_ret2
  exact ⟨rfl, rfl⟩
set_option maxRecDepth 100000 in
theorem read_off (w : World) (F : Nat → Prop) (g : Nat) (s : St) (h : Dev w F g s) (i : Int) (hb : ¬ bad s i 0) (ho : s.lim = some 0) :
    Calls Try.prog 19 #[.pointer (some ⟨g, 0, none⟩), .int .i64 i] w fun e w' => e = .returned (.tuple #[.slice none 0 0, .int .i64 40]) ∧ w = w' := by
  have hw := wrong_ok w F g s h i none 0 0 hb
  have ho := off_c w F g s h
  rw [‹s.lim = some 0›] at ho
  clear h hb
  go_enter Try.func19, Try.ntmps19
  go_wp2_with fail
  refine hw.mono ?_
  rintro e w' ⟨rfl, rfl⟩
  go_wp2_with fail
  refine ho.mono ?_
  rintro e w' ⟨rfl, rfl⟩
  go_wp2
  go_ret2
  exact ⟨rfl, rfl⟩
set_option maxRecDepth 100000 in
set_option maxHeartbeats 1000000 in
theorem read_c (w : World) (F : Nat → Prop) (g : Nat) (s : St) (h : Dev w F g s) (i : Nat) (hi : i < s.n) (ho : s.lim ≠ some 0) :
    Calls Try.prog 19 #[.pointer (some ⟨g, 0, none⟩), .int .i64 (i : Int)] w fun e w' => ∃ A c, e = .returned (.tuple #[.slice A 16 c, .int .i64 0]) ∧ w'.ownsRow w.heap.size 5 1 (.slice A 16 c) 16 (bs (app s.W s.K i)) ∧ Below w.heap.size w w' := by
  have hw := wrong_ok w F g s h i none 0 0 (by unfold bad; omega)
  have hoff := off_c w F g s h
  have e : decide (s.lim = some 0) = false := by simpa using ho
  rw [e] at hoff
  have hS := h.ok.S i
  obtain ⟨k, q, A, c, h⟩ := h
  obtain ⟨-, h1, -⟩ := h.cells
  have hrow := h.seen.row i hi
  have hglt := h.F g h.Fg
  have hqlt := h.seen.lt
  have i1 : (0 : Int) ≤ (i : Int) := by omega
  have i2 : (i : Int) < (s.n : Int) := by omega
  have HR := hid hrow
  have HQ := hid hqlt
  have HS := hid hS
  have HG := hid hglt
  generalize app s.W s.K i = L at *
  clear h ho e hrow hS
  go_enter Try.func19, Try.ntmps19
  go_wp2_with fail
  refine hw.mono ?_
  rintro e w' ⟨rfl, rfl⟩
  go_wp2_with fail
  refine hoff.mono ?_
  rintro e w' ⟨rfl, rfl⟩
  clear hw hoff
  go_wp2_with (at_make; refine wpList_make_new _ rfl _ _ 44 rfl 5 (.int .u8 0) 1 Try.underlying44 Try.infoU8 rfl 16 16 16 16 rfl rfl rfl rfl (by decide) (by decide) (by decide) ?_)
  intro w1 hz1 hg1 hs1
  have B1 : Below w.heap.size w w1 := (Below.refl _ _).grown hg1 (Nat.le_refl _) (fun k hk => by cases hk)
  have c1 : w1.cell? ⟨g, 1, none⟩ = some (.slice (some ⟨q, 0, none⟩) s.n s.n) := by rw [World.cell?_of_block (B1.block g HG.out)]; exact h1
  clear h1
  have R1 : Bts w1 0 w.heap.size (some ⟨q, i * 16, none⟩) 16 L := ⟨HS.out, fun _ => ⟨q, i * 16, rfl, Nat.zero_le _, HQ.out, rangeAt_keep HR.out (B1.block q HQ.out)⟩⟩
  have hB1 : Blk w1 w.heap.size 5 (zeros 16 (.int .u8 0)).toArray := hz1.out
  have hcp := run_copy16 w1 3 w.heap.size 16 _ 16 16 0 w.heap.size L R1 (Nat.le_refl _) (fun j hj => ⟨by rw [hB1.cell, Nat.zero_add]; simp [zeros, hj], hB1.frozen _⟩)
  have hB2 := hB1.setAll (bs L) (by rw [bs_len, HS.out]; rfl)
  have g2 := grown_setCells w.heap.size (bs L) 0 w1
  generalize w1.setCells w.heap.size 0 (bs L) = w2 at *
  have HB2 := hid hB2
  have HO : Hid (Below w.heap.size w w2) := hid (B1.grown g2 (Nat.le_of_lt hs1) (fun k hk => by injection hk with hk; omega))
  clear hB1 R1 hB2 g2 hz1 hg1 HR
  go_wp2
  go_ret2
  refine ⟨_, _, rfl, ⟨by rw [bs_len, HS.out], .inr ⟨w.heap.size, 16, (bs L).toArray, rfl, Nat.le_refl _, HB2.out, Nat.le_refl _, by unfold maxLen; omega, by simp [bs_len, HS.out], ?_⟩⟩, HO.out⟩
  exact List.take_of_length_le (by rw [bs_len, HS.out]; decide)
end Go.Proofs.Ytocmgdhgimpfhaa
