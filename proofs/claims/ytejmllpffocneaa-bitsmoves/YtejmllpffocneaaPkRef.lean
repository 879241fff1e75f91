/- What the document's own answers for package pack (strongroomref01) return. What the document's own answers for package pack (strongroomref01) return. -/
import Derived.Test.YtejmllpffocneaaPkW1
import Derived.Test.YtejmllpffocneaaPkW2
namespace Go.Proofs.Ytejmllpffocneaa
open Go.RowKit

set_option maxRecDepth 100000 in
theorem refFolded_c (n : Int) (w : World) (h1 : -9223372036854775808 ≤ n) (h2 : n ≤ 9223372036854775807) :
    Calls Try.prog 23 #[.int .i64 n] w fun e w' => e = .returned (.int .u64 (fold n : Int)) ∧ w = w' := by
  by_cases h : 0 ≤ n
  · have hd : decide (0 ≤ n) = true := by simpa using h
    go_enter Try.func23, Try.ntmps23
    go_wp2
    go_ret
    exact ⟨ret_u64 (by unfold fold; rw [if_neg (by omega)]; omega), rfl⟩
  · have hd : decide (0 ≤ n) = false := by simpa using h
    have e1 : IntKind.i64.wrap (n + 1) = n + 1 := IntWalk.i64_in _ (by omega)
    have e2 : IntKind.i64.wrap (-(n + 1)) = -(n + 1) := IntWalk.i64_in _ (by omega)
    have e3 : IntKind.u64.wrap (-(n + 1)) = -(n + 1) := IntWalk.u64_in _ (by omega)
    go_enter Try.func23, Try.ntmps23
    go_wp2
    go_ret
    exact ⟨ret_u64 (by unfold fold; rw [if_pos (by omega)]; omega), rfl⟩

set_option maxRecDepth 100000 in
theorem refNatural_c : ∀ (B m : Nat) (w : World), m ≤ B → m < 18446744073709551616 →
    Calls Try.prog 22 #[.int .u64 (m : Int)] w (Row w (nat m)) := by
  intro B
  induction B with
  | zero =>
    intro m w hm _
    obtain rfl : m = 0 := by omega
    go_enter Try.func22, Try.ntmps22
    go_wp2
    go_ret
    rw [nat_small (by omega)]
    exact ⟨_, _, rfl, by decide, ⟨rfl, .inr ⟨_, 1, _, rfl, Nat.le_refl _, Blk.new _ _ _, by decide, by decide, rfl, rfl⟩⟩, (Below.refl _ _).alloc (Nat.le_refl _) _⟩
  | succ B ih =>
    intro m w hm hlt
    have IH := hid ih
    clear ih
    by_cases hs : m < 128
    · have hd : decide ((m : Int) < 128) = true := by simp; omega
      have e1 : (m : Int) % 256 = (m : Int) := by omega
      go_enter Try.func22, Try.ntmps22
      go_wp2
      go_ret
      have hv : bs (nat m) = [Value.int .u8 (m : Int)] := by rw [nat_small hs]; simp [bs]; omega
      have hlen : (nat m).length = 1 := by rw [nat_small hs]; rfl
      refine ⟨some ⟨w.heap.size, 0, none⟩, 1, by rw [hlen]; rfl, by rw [hlen]; exact Nat.le_refl _, ?_, (Below.refl _ _).alloc (Nat.le_refl _) _⟩
      rw [hlen, hv]
      exact World.ownsRow_lit w #[_] 1 (Nat.le_refl _) (by decide) rfl
    · have hd : decide ((m : Int) < 128) = false := by simp; omega
      go_enter Try.func22, Try.ntmps22
      go_wp2_with fail
      rw [show (m : Int) / 128 = ((m / 128 : Nat) : Int) by omega]
      refine (IH.out (m / 128) _ (by omega) (by omega)).mono ?_
      rintro e w2 hrow
      obtain ⟨A2, n2, c2, rfl, hn2, hc2, ho2, hbt2, hb2⟩ := hrow.out
      have h10 := nat_len_u64 (n := m / 128) (by omega)
      have hn2' : n2 ≤ 10 := by have := hn2.out; omega
      have hown : (w.alloc (.cells #[Value.int .u8 (128 + (m : Int) % 128)] 5)).ownsRow w.heap.size 5 1 (.slice (some ⟨w.heap.size, 0, none⟩) 1 1) 1 [Value.int .u8 (128 + (m : Int) % 128)] := World.ownsRow_lit w #[_] 1 (Nat.le_refl _) (by decide) rfl
      have hown2 : w2.ownsRow w.heap.size 5 1 (.slice (some ⟨w.heap.size, 0, none⟩) 1 1) 1 [Value.int .u8 (128 + (m : Int) % 128)] := by
        refine ⟨hown.1, ?_⟩
        rcases hown.2 with ⟨hv, _⟩ | ⟨g, cap, cur, hv, hb, hg, hr⟩
        · cases hv
        · exact .inr ⟨g, cap, cur, hv, hb, (hb2.block g (by have := (Array.getElem?_eq_some_iff.1 hg).1; exact this)).trans hg, hr⟩
      have hz : w.heap.size ≤ w2.heap.size := by have := hb2.size; simp at this; omega
      have hbw : Below w.heap.size w w2 := ((Below.refl _ _).alloc (Nat.le_refl _) _).trans (hb2.mono (by simp))
      clear hown
      go_wp2_with (at_builtin; refine wpList_appL _ rfl _ _ 24 rfl w.heap.size 5 (.int .u8 0) 1 Try.underlying24 Try.info5 rfl _ _ _ _ rfl hown2 _ _ _ _ _ _ rfl hbt2.lst (bs_one _) (by omega) (by unfold maxLen; omega) hz ?_)
      intro A3 c3 w3 hc3 hown3 _ hb3 _
      go_wp2
      go_ret
      have hv : bs (nat m) = Value.int .u8 (128 + (m : Int) % 128) :: bs (nat (m / 128)) := by rw [nat_big hs, bs_cons]; simp; omega
      have hlen : (nat m).length = 1 + n2 := by rw [nat_big hs, List.length_cons, hn2.out]; omega
      refine ⟨A3, c3, by rw [hlen]; rfl, by rw [hlen]; exact hc3, ?_, hbw.trans hb3⟩
      rw [hlen, hv]
      simpa using hown3
end Go.Proofs.Ytejmllpffocneaa
/- What the document's own answers for package pack (strongroomref01) return. -/
namespace Go.Proofs.Ytejmllpffocneaa
open Go.RowKit

set_option maxRecDepth 100000 in
theorem refUnfolded_c (u : Nat) (w : World) (hu : u < 18446744073709551616) :
    Calls Try.prog 27 #[.int .u64 (u : Int)] w fun e w' => e = .returned (.int .i64 (unfold_ u)) ∧ w = w' := by
  by_cases h : u % 2 = 0
  · have e1 : ((u : Int) % 2 == 0) = true := by simp; omega
    have b1 : (u : Int) / 2 ≤ 9223372036854775807 := by omega
    have H := hid h
    clear h
    go_enter Try.func27, Try.ntmps27
    go_wp2
    go_ret
    exact ⟨ret_i64 (by unfold unfold_; rw [if_pos H.out]; omega), rfl⟩
  · have e1 : ((u : Int) % 2 == 0) = false := by simp; omega
    have e2 : IntKind.i64.wrap (-((u : Int) / 2)) = -((u : Int) / 2) := IntWalk.i64_in _ (by omega)
    have e3 : IntKind.i64.wrap (-((u : Int) / 2) - 1) = -((u : Int) / 2) - 1 := IntWalk.i64_in _ (by omega)
    have H := hid h
    clear h
    go_enter Try.func27, Try.ntmps27
    go_wp2
    go_ret
    exact ⟨ret_i64 (by unfold unfold_; rw [if_neg H.out]; omega), rfl⟩

set_option maxRecDepth 100000 in
set_option maxHeartbeats 1000000 in
theorem refRead_c (A : Option Addr) (n c : Nat) (l : List UInt8) (w : World) (lo hi : Nat) (hr : Bts w lo hi A n l) (hn : n ≤ 9223372036854775807) :
    Calls Try.prog 25 #[.slice A n c] w (Two .u64 ((rd l).1 : Int) ((rd l).2 : Int) w) := by
  go_enter Try.func25, Try.ntmps25
  go_wp2
  go_loop [4, 5, 6] (fun x y i => ∃ k q U : Nat, k ≤ n ∧ k ≤ 9 ∧ i = .int .i64 k ∧ x = .int .u64 (q : Int) ∧ y = .int .u64 (U : Int) ∧ q < U ∧ U ≤ 9223372036854775808 ∧ Hid (U = 128 ^ k) ∧ Hid (rdN (l.drop k) k q = rd l)) (fun _ _ i => n - (intOf i).toNat)
  case atStart => exact ⟨0, 0, 1, Nat.zero_le _, Nat.zero_le _, rfl, rfl, rfl, by simp, by omega, rfl, rfl⟩
  case round =>
    obtain ⟨k, q, U, hk, hk9, rfl, rfl, rfl, hq, hU, hUk, hrd⟩ := hrel
    have hd10 : decide ((k : Int) < 10) = true := by simp; omega
    by_cases hlt : k < n
    · obtain ⟨g, off, rfl, h1, h2, hcell⟩ := hr.at_ hlt
      have hkl : k < l.length := by rw [hr.len]; exact hlt
      have hdrop : l.drop k = l[k] :: l.drop (k + 1) := List.drop_eq_getElem_cons hkl
      have hb256 : l[k].toNat < 256 := l[k].toNat_lt
      have hrd' : Hid (rdN (l[k] :: l.drop (k + 1)) k q = rd l) := by rw [← hdrop]; exact hrd
      clear hrd hdrop
      generalize hcc : l[k] = cc at *
      have hCC := hid hcc
      clear hcc
      have hc0 : 0 ≤ (cc.toNat : Int) := by omega
      by_cases hover : k = 9 ∧ 1 < cc.toNat
      · obtain ⟨rfl, hgt⟩ := hover
        have e1 : decide ((1 : Int) < (cc.toNat : Int)) = true := by simp; omega
        have hrd2 := hid (hrd'.out.symm.trans (rdN_over hgt))
        go_wp2
        go_ret2
        rw [hrd2.out]
        exact ⟨rfl, rfl⟩
      · have hc9 : k = 9 → cc.toNat ≤ 1 := by omega
        have hu := step_u64 (by rw [← hUk.out]; exact hq) hk9 hc9
        have hsl := step_lt (c := cc.toNat) (n := q) (i := k) (by rw [← hUk.out]; exact hq)
        rw [← hUk.out] at hu hsl
        obtain ⟨V, hV⟩ : ∃ V, V = cc.toNat % 128 * U := ⟨_, rfl⟩
        have r1 : IntKind.u64.wrap ((cc.toNat : Int) % 128 * (U : Int)) = (V : Int) := by
          rw [hV]
          have : (cc.toNat : Int) % 128 * (U : Int) = ((cc.toNat % 128 * U : Nat) : Int) := by simp
          rw [this]
          exact IntWalk.u64_in _ (by omega)
        rw [← hV] at hu hsl
        have HV := hid hV
        clear hV
        have hcase : (((k : Int) == 9) = true ∧ decide ((1 : Int) < (cc.toNat : Int)) = false) ∨ ((k : Int) == 9) = false := by
          by_cases h9 : k = 9
          · left; subst h9; exact ⟨rfl, by simp; omega⟩
          · right; simp; omega
        by_cases hz : cc.toNat = 0 ∧ 0 < k
        · have hrd2 := hid (hrd'.out.symm.trans (rdN_zero hover hz.1 hz.2))
          obtain ⟨hz1, hz2⟩ := hz
          have e3 : ((cc.toNat : Int) == 0) = true := by simp; omega
          have e4 : decide ((0 : Int) < (k : Int)) = true := by simp; omega
          clear hz1 r1
          rcases hcase with ⟨e0, e1⟩ | e0
          all_goals
            go_wp2
            go_ret2
            rw [hrd2.out]
            exact ⟨rfl, rfl⟩
        · have hcase2 : (decide ((0 : Int) < (k : Int)) = true ∧ ((cc.toNat : Int) == 0) = false) ∨ decide ((0 : Int) < (k : Int)) = false := by
            by_cases h0 : 0 < k
            · left; exact ⟨by simp; omega, by simp; omega⟩
            · right; simp; omega
          by_cases hge : cc.toNat < 128
          · have e2 : decide ((cc.toNat : Int) < 128) = true := by simp; omega
            have hrd2 := hid (hrd'.out.symm.trans (rdN_end hover hge hz))
            rw [← hUk.out, ← HV.out] at hrd2
            rcases hcase with ⟨e0, e1⟩ | e0
            all_goals
              rcases hcase2 with ⟨e4, e3⟩ | e4
              all_goals
                go_wp2
                all_goals go_ret2
                all_goals rw [hrd2.out]
                all_goals exact ⟨rfl, rfl⟩
          · have e2 : decide ((cc.toNat : Int) < 128) = false := by simp; omega
            have hrd2 := hid (hrd'.out.symm.trans (rdN_on hover (by omega)))
            rw [← hUk.out, ← HV.out] at hrd2
            have hk8 : k < 9 := by omega
            have hU2 : U * 128 = 128 ^ (k + 1) := by rw [hUk.out, Nat.pow_succ]
            have hU3 : U * 128 ≤ 9223372036854775808 := by rw [hU2]; exact pow128 (k + 1) (by omega)
            have HU2 := hid hU2
            rw [← hU2] at hsl
            clear hU2
            rcases hcase with ⟨e0, e1⟩ | e0
            all_goals
              rcases hcase2 with ⟨e4, e3⟩ | e4
              all_goals
                go_wp2
                all_goals refine ⟨⟨k + 1, q + V, U * 128, by omega, by omega, by go_num, by go_num, by go_num, hsl, hU3, HU2.out, hrd2.out.symm⟩, by simp [intOf]; omega⟩
    · go_wp2
      go_ret2
      have h1 : k = n := by omega
      have := hrd.out
      rw [h1, List.drop_of_length_le (by rw [hr.len]; exact Nat.le_refl _), rdN_nil] at this
      rw [← this]
      exact ⟨rfl, rfl⟩
end Go.Proofs.Ytejmllpffocneaa
