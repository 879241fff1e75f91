/- What the document's own answers for package pack (strongroomref01) return. -/
import Derived.Test.YtolaojkcofbkhaaPkW1
namespace Go.Proofs.Ytolaojkcofbkhaa
open Go.RowKit

set_option maxRecDepth 100000 in
theorem refFolded_c (n : Int) (w : World) (h1 : -9223372036854775808 ≤ n) (h2 : n ≤ 9223372036854775807) :
    Calls Try.prog 20 #[.int .i64 n] w fun e w' => e = .returned (.int .u64 (fold n : Int)) ∧ w = w' := by
  by_cases h : 0 ≤ n
  · have hd : decide (0 ≤ n) = true := by simpa using h
    go_enter Try.func20, Try.ntmps20
    go_wp2
    go_ret
    exact ⟨ret_u64 (by unfold fold; rw [if_neg (by omega)]; omega), rfl⟩
  · have hd : decide (0 ≤ n) = false := by simpa using h
    have e1 : IntKind.i64.wrap (n + 1) = n + 1 := IntWalk.i64_in _ (by omega)
    have e2 : IntKind.i64.wrap (-(n + 1)) = -(n + 1) := IntWalk.i64_in _ (by omega)
    have e3 : IntKind.u64.wrap (-(n + 1)) = -(n + 1) := IntWalk.u64_in _ (by omega)
    go_enter Try.func20, Try.ntmps20
    go_wp2
    go_ret
    exact ⟨ret_u64 (by unfold fold; rw [if_pos (by omega)]; omega), rfl⟩

set_option maxRecDepth 100000 in
theorem refNatural_c : ∀ (B m : Nat) (w : World), m ≤ B → m < 18446744073709551616 →
    Calls Try.prog 19 #[.int .u64 (m : Int)] w (Row w (nat m)) := by
  intro B
  induction B with
  | zero =>
    intro m w hm _
    obtain rfl : m = 0 := by omega
    go_enter Try.func19, Try.ntmps19
    go_wp2
    go_ret
    rw [nat_small (by omega)]
    exact ⟨_, _, rfl, by decide, ⟨rfl, .inr ⟨_, 1, _, rfl, Nat.le_refl _, Blk.new _ _ _, by decide, by decide, rfl, rfl⟩⟩, (Below.refl _ _).alloc (Nat.le_refl _) _⟩
  | succ B ih =>
    intro m w hm hlt
    have IH := hid ih
    clear ih
    by_cases hs : m < 128
    · have hd : decide ((m : Int) < 128) = true := by simp; omega
      have e1 : (m : Int) % 256 = (m : Int) := by omega
      go_enter Try.func19, Try.ntmps19
      go_wp2
      go_ret
      have hv : bs (nat m) = [Value.int .u8 (m : Int)] := by rw [nat_small hs]; simp [bs]; omega
      have hlen : (nat m).length = 1 := by rw [nat_small hs]; rfl
      refine ⟨some ⟨w.heap.size, 0, none⟩, 1, by rw [hlen]; rfl, by rw [hlen]; exact Nat.le_refl _, ?_, (Below.refl _ _).alloc (Nat.le_refl _) _⟩
      rw [hlen, hv]
      exact World.ownsRow_lit w #[_] 1 (Nat.le_refl _) (by decide) rfl
    · have hd : decide ((m : Int) < 128) = false := by simp; omega
      go_enter Try.func19, Try.ntmps19
      go_wp2_with fail
      rw [show (m : Int) / 128 = ((m / 128 : Nat) : Int) by omega]
      refine (IH.out (m / 128) _ (by omega) (by omega)).mono ?_
      rintro e w2 hrow
      obtain ⟨A2, n2, c2, rfl, hn2, hc2, ho2, hbt2, hb2⟩ := hrow.out
      have h10 := nat_len_u64 (n := m / 128) (by omega)
      have hn2' : n2 ≤ 10 := by have := hn2.out; omega
      have hown : (w.alloc (.cells #[Value.int .u8 (128 + (m : Int) % 128)] 5)).ownsRow w.heap.size 5 1 (.slice (some ⟨w.heap.size, 0, none⟩) 1 1) 1 [Value.int .u8 (128 + (m : Int) % 128)] := World.ownsRow_lit w #[_] 1 (Nat.le_refl _) (by decide) rfl
      have hown2 : w2.ownsRow w.heap.size 5 1 (.slice (some ⟨w.heap.size, 0, none⟩) 1 1) 1 [Value.int .u8 (128 + (m : Int) % 128)] := by
        refine ⟨hown.1, ?_⟩
        rcases hown.2 with ⟨hv, _⟩ | ⟨g, cap, cur, hv, hb, hg, hr⟩
        · cases hv
        · exact .inr ⟨g, cap, cur, hv, hb, (hb2.block g (by have := (Array.getElem?_eq_some_iff.1 hg).1; exact this)).trans hg, hr⟩
      have hz : w.heap.size ≤ w2.heap.size := by have := hb2.size; simp at this; omega
      have hbw : Below w.heap.size w w2 := ((Below.refl _ _).alloc (Nat.le_refl _) _).trans (hb2.mono (by simp))
      clear hown
      go_wp2_with (at_builtin; refine wpList_appL _ rfl _ _ 24 rfl w.heap.size 5 (.int .u8 0) 1 Try.underlying24 Try.info5 rfl _ _ _ _ rfl hown2 _ _ _ _ _ _ rfl hbt2.lst (bs_one _) (by omega) (by unfold maxLen; omega) hz ?_)
      intro A3 c3 w3 hc3 hown3 _ hb3 _
      go_wp2
      go_ret
      have hv : bs (nat m) = Value.int .u8 (128 + (m : Int) % 128) :: bs (nat (m / 128)) := by rw [nat_big hs, bs_cons]; simp; omega
      have hlen : (nat m).length = 1 + n2 := by rw [nat_big hs, List.length_cons, hn2.out]; omega
      refine ⟨A3, c3, by rw [hlen]; rfl, by rw [hlen]; exact hc3, ?_, hbw.trans hb3⟩
      rw [hlen, hv]
      simpa using hown3
end Go.Proofs.Ytolaojkcofbkhaa
