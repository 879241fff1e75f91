/- What the small calls of a device return: whether it is off, a call taken off the limit, what is wrong with a call, how many blocks, how many writes wait, a limit, a beat. -/
import Derived.Test.YtocmgdhgimpfhaaDvRep
namespace Go.Proofs.Ytocmgdhgimpfhaa
open Go.RowKit

theorem DevAt.cells {w : World} {F : Nat → Prop} {g : Nat} {s : St} {k q c : Nat} {A : Option Addr} (h : DevAt w F g s k q A c) :
    w.cell? ⟨g, 0, none⟩ = some (.slice (some ⟨k, 0, none⟩) s.n s.n) ∧ w.cell? ⟨g, 1, none⟩ = some (.slice (some ⟨q, 0, none⟩) s.n s.n) ∧ w.cell? ⟨g, 2, none⟩ = some (.slice A s.W.length c) ∧ w.cell? ⟨g, 3, none⟩ = some (.bool s.lim.isSome) ∧ w.cell? ⟨g, 4, none⟩ = some (.int .i64 ((s.lim.getD 0 : Nat) : Int)) := by
  have h0 := h.blk.cell 0
  have h1 := h.blk.cell 1
  have h2 := h.blk.cell 2
  have h3 := h.blk.cell 3
  have h4 := h.blk.cell 4
  simp at h0 h1 h2 h3 h4
  exact ⟨h0, h1, h2, h3, h4⟩

set_option maxRecDepth 100000 in
theorem off_c (w : World) (F : Nat → Prop) (g : Nat) (s : St) (h : Dev w F g s) :
    Calls Try.prog 44 #[.pointer (some ⟨g, 0, none⟩)] w fun e w' => e = .returned (.bool (decide (s.lim = some 0))) ∧ w = w' := by
  obtain ⟨k, q, A, c, h⟩ := h
  obtain ⟨-, -, -, h3, h4⟩ := h.cells
  clear h
  go_enter Try.func44, Try.ntmps44
  rcases hl : s.lim with _ | _ | m
  · rw [hl] at h3 h4
    simp at h3 h4
    go_wp2
    go_ret
    exact ⟨rfl, rfl⟩
  · rw [hl] at h3 h4
    simp at h3 h4
    go_wp2
    go_ret
    exact ⟨rfl, rfl⟩
  · rw [hl] at h3 h4
    simp at h3 h4
    have e1 : ((m : Int) + 1 == 0) = false := by simp; omega
    go_wp2
    go_ret
    exact ⟨by simp, rfl⟩

set_option maxRecDepth 100000 in
theorem blocks_c (w : World) (F : Nat → Prop) (g : Nat) (s : St) (h : Dev w F g s) :
    Calls Try.prog 53 #[.pointer (some ⟨g, 0, none⟩)] w fun e w' => e = .returned (.int .i64 (s.n : Int)) ∧ w = w' := by
  obtain ⟨k, q, A, c, h⟩ := h
  obtain ⟨h0, -⟩ := h.cells
  clear h
  go_enter Try.func53, Try.ntmps53
  go_wp2
  go_ret
  exact ⟨rfl, rfl⟩
set_option maxRecDepth 100000 in
theorem blocks_nil (w : World) :
    Calls Try.prog 53 #[.pointer none] w fun e w' => e = .returned (.int .i64 0) ∧ w = w' := by
  go_enter Try.func53, Try.ntmps53
  go_wp2
  go_ret
  exact ⟨rfl, rfl⟩
set_option maxRecDepth 100000 in
theorem waiting_c (w : World) (F : Nat → Prop) (g : Nat) (s : St) (h : Dev w F g s) :
    Calls Try.prog 28 #[.pointer (some ⟨g, 0, none⟩)] w fun e w' => e = .returned (.int .i64 (s.W.length : Int)) ∧ w = w' := by
  obtain ⟨k, q, A, c, h⟩ := h
  obtain ⟨-, -, h2, -⟩ := h.cells
  clear h
  go_enter Try.func28, Try.ntmps28
  go_wp2
  go_ret
  exact ⟨rfl, rfl⟩
set_option maxRecDepth 100000 in
theorem waiting_nil (w : World) :
    Calls Try.prog 28 #[.pointer none] w fun e w' => e = .returned (.int .i64 0) ∧ w = w' := by
  go_enter Try.func28, Try.ntmps28
  go_wp2
  go_ret
  exact ⟨rfl, rfl⟩

/-- Is there something wrong with a call for block i with n bytes? -/
def bad (s : St) (i : Int) (n : Nat) : Prop := i < 0 ∨ (s.n : Int) ≤ i ∨ 16 < n
instance (s : St) (i : Int) (n : Nat) : Decidable (bad s i n) := inferInstanceAs (Decidable (_ ∨ _))
set_option maxRecDepth 100000 in
theorem wrong_bad (w : World) (F : Nat → Prop) (g : Nat) (s : St) (h : Dev w F g s) (i : Int) (A : Option Addr) (n c : Nat) (hb : bad s i n) :
    Calls Try.prog 39 #[.pointer (some ⟨g, 0, none⟩), .int .i64 i, .slice A n c] w fun e w' => e = .returned (.int .i64 2) ∧ w = w' := by
  obtain ⟨k, q, A', c', h⟩ := h
  obtain ⟨h0, -⟩ := h.cells
  clear h
  go_enter Try.func39, Try.ntmps39
  by_cases h1 : i < 0
  · have e1 : decide (i < 0) = true := by simpa using h1
    clear hb h1
    go_wp2
    go_ret
    exact ⟨rfl, rfl⟩
  · have e1 : decide (i < 0) = false := by simpa using h1
    by_cases h2 : (s.n : Int) ≤ i
    · have e2 : decide (i ≥ (s.n : Int)) = true := by simpa using h2
      have e3 : decide ((s.n : Int) ≤ i) = true := by simpa using h2
      clear hb h1 h2
      go_wp2
      go_ret
      exact ⟨rfl, rfl⟩
    · have h3 : 16 < n := by rcases hb with hb | hb | hb; exact absurd hb h1; exact absurd hb h2; exact hb
      have e2 : decide (i ≥ (s.n : Int)) = false := by simpa using h2
      have e3 : decide ((s.n : Int) ≤ i) = false := by simpa using h2
      have e4 : decide ((16 : Int) < (n : Int)) = true := by simp; omega
      clear hb h1 h2 h3
      go_wp2
      go_ret
      exact ⟨rfl, rfl⟩
set_option maxRecDepth 100000 in
theorem wrong_ok (w : World) (F : Nat → Prop) (g : Nat) (s : St) (h : Dev w F g s) (i : Int) (A : Option Addr) (n c : Nat) (hb : ¬ bad s i n) :
    Calls Try.prog 39 #[.pointer (some ⟨g, 0, none⟩), .int .i64 i, .slice A n c] w fun e w' => e = .returned (.int .i64 0) ∧ w = w' := by
  obtain ⟨k, q, A', c', h⟩ := h
  obtain ⟨h0, -⟩ := h.cells
  clear h
  have e1 : decide (i < 0) = false := by simp; exact Int.not_lt.1 fun e => hb (.inl e)
  have e3 : decide ((s.n : Int) ≤ i) = false := by simp; exact Int.not_le.1 fun e => hb (.inr (.inl e))
  have e4 : decide ((16 : Int) < (n : Int)) = false := decide_eq_false fun e => hb (.inr (.inr (by omega)))
  clear hb
  go_enter Try.func39, Try.ntmps39
  go_wp2
  go_ret
  exact ⟨rfl, rfl⟩
set_option maxRecDepth 100000 in
theorem wrong_nil (w : World) (i : Int) (A : Option Addr) (n c : Nat) :
    Calls Try.prog 39 #[.pointer none, .int .i64 i, .slice A n c] w fun e w' => e = .returned (.int .i64 1) ∧ w = w' := by
  go_enter Try.func39, Try.ntmps39
  go_wp2
  go_ret
  exact ⟨rfl, rfl⟩

/-- A cell of the device's own block written. -/
theorem DevAt.left {w : World} {F : Nat → Prop} {g : Nat} {s : St} {k q c : Nat} {A : Option Addr} (h : DevAt w F g s k q A c) (l : Option Nat) (hl : ∀ d, l = some d → d ≤ 9223372036854775807) {w' : World} (hw : w.grownBy w' (some g))
    (hb : Blk w' g 77 #[.slice (some ⟨k, 0, none⟩) s.n s.n, .slice (some ⟨q, 0, none⟩) s.n s.n, .slice A s.W.length c, .bool l.isSome, .int .i64 ((l.getD 0 : Nat) : Int)]) : Left w w' F g { s with lim := l } :=
  ⟨F, ⟨k, q, A, c, hb, h.kept.keep hw.size (hw.block k h.kept.lt (by simpa using Ne.symm h.gk)), h.seen.keep hw.size (hw.block q h.seen.lt (by simpa using Ne.symm h.gq)),
    own_keep h.wait fun b hb => hw.block b (own_lt h.wait b hb) (by simpa using (h.Ag b hb).1), h.gk, h.gq, h.kq, h.Ag, h.Fg, h.Fk, h.Fq, fun j hj => Nat.lt_of_lt_of_le (h.F j hj) hw.size, ⟨h.ok.n1, h.ok.n2, h.ok.K, h.ok.W, hl⟩⟩,
   Kp.grown hw fun j hj => by injection hj with hj; subst hj; exact .inl h.Fg, fun j hj => .inl hj⟩

set_option maxRecDepth 100000 in
theorem count_off (w : World) (F : Nat → Prop) (g : Nat) (s : St) (h : Dev w F g s) (ho : s.lim = some 0) :
    Calls Try.prog 45 #[.pointer (some ⟨g, 0, none⟩)] w fun e w' => e = .returned (.int .i64 40) ∧ w = w' := by
  have hoff := off_c w F g s h
  have e : decide (s.lim = some 0) = true := by simpa using ho
  rw [e] at hoff
  clear h ho e
  go_enter Try.func45, Try.ntmps45
  go_wp2_with fail
  refine hoff.mono ?_
  rintro e w' ⟨rfl, rfl⟩
  go_wp2
  go_ret
  exact ⟨rfl, rfl⟩
set_option maxRecDepth 100000 in
theorem count_on (w : World) (F : Nat → Prop) (g : Nat) (s : St) (h : Dev w F g s) (ho : s.lim ≠ some 0) :
    Calls Try.prog 45 #[.pointer (some ⟨g, 0, none⟩)] w fun e w' => e = .returned (.int .i64 0) ∧ Left w w' F g s.dec := by
  have hoff := off_c w F g s h
  have e : decide (s.lim = some 0) = false := by simpa using ho
  rw [e] at hoff
  obtain ⟨k, q, A, c, h⟩ := h
  obtain ⟨-, -, -, h3, h4⟩ := h.cells
  have f4 := Blk.frozen h.blk 4
  have HL := hid (fun l hl w' => h.left l hl (w' := w'))
  have HB := hid h.blk
  rcases hl : s.lim with _ | m
  · rw [hl] at h3 h4
    simp at h3 h4
    have HE : Hid (s = s.dec) := hid (by unfold St.dec; rw [hl]; cases s; simp_all)
    have HD : Hid (Dev w F g s) := hid ⟨k, q, A, c, h⟩
    clear h ho e hl HL HB
    go_enter Try.func45, Try.ntmps45
    go_wp2_with fail
    refine hoff.mono ?_
    rintro e w' ⟨rfl, rfl⟩
    go_wp2
    go_ret
    exact ⟨rfl, F, by rw [← HE.out]; exact HD.out, Kp.refl _ _, fun j hj => .inl hj⟩
  · have hm : m ≤ 9223372036854775807 := h.ok.lim m hl
    obtain ⟨m, rfl⟩ : ∃ m', m = m' + 1 := ⟨m - 1, by have : m ≠ 0 := fun e => ho (by rw [hl, e]); omega⟩
    have e1 : wrap64 (m : Int) = (m : Int) := by unfold wrap64; omega
    have e2 : ((m + 1 : Nat) : Int) - 1 = (m : Int) := by omega
    rw [hl] at h3 h4
    simp only [Option.isSome_some, Option.getD_some] at h3 h4
    have HE : Hid ({ s with lim := some m } = s.dec) := hid (by unfold St.dec; rw [hl]; simp)
    have HM := hid hm
    have HW : Hid (Blk (w.setCell ⟨g, 4, none⟩ (.int .i64 (m : Int))) g 77 #[.slice (some ⟨k, 0, none⟩) s.n s.n, .slice (some ⟨q, 0, none⟩) s.n s.n, .slice A s.W.length c, .bool (some m).isSome, .int .i64 (((some m).getD 0 : Nat) : Int)]) := hid (by
      have := HB.out.store 4 (.int .i64 (m : Int))
      rw [hl] at this
      exact this)
    clear h ho e hl HB hm
    go_enter Try.func45, Try.ntmps45
    go_wp2_with fail
    refine hoff.mono ?_
    rintro e w' ⟨rfl, rfl⟩
    go_wp2
    go_ret
    refine ⟨rfl, ?_⟩
    have := HL.out (some m) (fun d hd => by injection hd with hd; have := HM.out; omega) _ (grown_setCell w g 4 _) HW.out
    rw [HE.out] at this
    exact this
set_option maxRecDepth 100000 in
theorem count_nil (w : World) :
    Calls Try.prog 45 #[.pointer none] w fun e w' => e = .returned (.int .i64 1) ∧ w = w' := by
  go_enter Try.func45, Try.ntmps45
  go_wp2
  go_ret
  exact ⟨rfl, rfl⟩
end Go.Proofs.Ytocmgdhgimpfhaa
