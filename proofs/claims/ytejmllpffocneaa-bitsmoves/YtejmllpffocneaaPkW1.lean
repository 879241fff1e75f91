/- What the package pack's functions that write (copyOf, addNatural, Natural, Number, Text) return: the bytes given, and behind them those of the number or the text, in new memory; whatever the world. Lengths below 2^30. -/
import Derived.Test.YtejmllpffocneaaProg
import Derived.Test.YtejmllpffocneaaBase
import Derived.Test.YtejmllpffocneaaPkMath
namespace Go.Proofs.Ytejmllpffocneaa
open Go.RowKit

theorem Try.info5 : (Try.prog.info? 5).map (fun i => (i.zero, i.size, i.bytes)) = some (some (.int .u8 0), 1, 1) := by kernel_rfl

/-- A new row of bytes was returned, and nothing that was there has turned. -/
def Row (w : World) (l : List UInt8) (e : Ending) (w' : World) : Prop :=
  ∃ A c, e = .returned (.slice A l.length c) ∧ l.length ≤ c ∧ w'.ownsRow w.heap.size 5 1 (.slice A l.length c) l.length (bs l) ∧ Below w.heap.size w w'

theorem Row.out {w w' : World} {l : List UInt8} {e : Ending} (h : Row w l e w') :
    ∃ A n c, e = .returned (.slice A n c) ∧ Hid (l.length = n) ∧ n ≤ c ∧ w'.ownsRow w.heap.size 5 1 (.slice A n c) n (bs l) ∧ Bts w' w.heap.size w'.heap.size A n l ∧ Below w.heap.size w w' := by
  obtain ⟨A, c, rfl, hc, ho, hb⟩ := h
  exact ⟨A, l.length, c, rfl, rfl, hc, ho, Bts.own ho, hb⟩

set_option maxRecDepth 100000 in
set_option maxHeartbeats 400000 in
theorem copyOf_c (A : Option Addr) (n c r : Nat) (l : List UInt8) (w : World) (hr : Bts w 0 w.heap.size A n l) (hn : n + r ≤ 1073741824) :
    Calls Try.prog 40 #[.slice A n c, .int .i64 (r : Int)] w (Row w l) := by
  go_enter Try.func40, Try.ntmps40
  go_wp2_with (at_make; refine wpList_make_new _ rfl _ _ 24 rfl 5 (.int .u8 0) 1 Try.underlying24 Try.info5 rfl _ _ n (n + r) rfl rfl rfl (by omega) (by omega) (by omega) (by omega) ?_)
  intro w1 hblk hgr hlt
  have hb1 : Below w.heap.size w w1 := grown_below hgr (Nat.le_refl _) (fun k h => by cases h)
  have hr1 : Bts w1 0 w.heap.size A n l := hr.below hb1 (Nat.le_refl _)
  go_wp2_with (with_reducible refine wpList_copy_splice rfl (.tmp 13) (.tmp 14) 24 24 rfl 5 Try.underlying24 (by kernel_rfl) _ _ _ _ _ _ rfl rfl w.heap.size 0 (zeros (n + r) (.int .u8 0)) 5 hblk.out (bs l) ?hn ?hpos ?hfit (bs_one l) w.heap.size w hb1 (Nat.le_refl _) ?_)
  case hn => rw [bs_len, hr.len]; simp
  case hpos =>
    intro h0
    rw [bs_len, hr.len] at h0
    obtain ⟨g, off, rfl, _, _, hc⟩ := hr1.2 h0
    refine ⟨_, rfl, fun j v hj => ?_⟩
    have ha : (⟨g, off, none⟩ : Addr).add j = ⟨g, off + j, none⟩ := by unfold Addr.add; split <;> simp_all
    rw [ha]
    exact hc j v hj
  case hfit => rw [bs_len, hr.len, zeros_len]; omega
  intro w2 hblk2 hb2
  go_wp2
  go_ret
  have hl := hr.len
  subst hl
  refine ⟨_, _, rfl, by omega, ⟨by rw [bs_len]; omega, .inr ⟨_, _, _, rfl, Nat.le_refl _, hblk2.out, by omega, by unfold maxLen; omega, ?_, ?_⟩⟩, hb2⟩
  · rw [List.size_toArray, length_splice _ _ _ (by rw [zeros_len, bs_len]; omega), zeros_len]; omega
  · simp [splice, ← bs_len]

theorem and127 (q : Nat) (h : q < 18446744073709551616) : bits .and .u64 (q : Int) 127 = (q : Int) % 128 := by
  have h1 := u64_and_nat q 127 h (by omega)
  have h2 : q &&& 127 = q % 128 := Nat.and_two_pow_sub_one_eq_mod q 7
  rw [h2] at h1
  simpa using h1

set_option maxRecDepth 100000 in
set_option maxHeartbeats 400000 in
theorem addNatural_c (A : Option Addr) (k c : Nat) (xs : List Value) (base m : Nat) (w : World) (ho : w.ownsRow base 5 1 (.slice A k c) k xs) (hb : base ≤ w.heap.size) (hk : k ≤ 1073741824) (hm : m < 18446744073709551616) :
    Calls Try.prog 39 #[.slice A k c, .int .u64 (m : Int)] w fun e w' => ∃ A' c', e = .returned (.slice A' (k + (nat m).length) c') ∧ w'.ownsRow base 5 1 (.slice A' (k + (nat m).length) c') (k + (nat m).length) (xs ++ bs (nat m)) ∧ Below base w w' := by
  obtain ⟨i, hi, hz0, hz1, hz2⟩ := info_parts Try.info5
  go_enter Try.func39, Try.ntmps39
  go_wp2_with fail
  go_loopw [0, 1] (fun o x wr => ∃ (A' : Option Addr) (c' q : Nat) (l' : List UInt8), x = .int .u64 (q : Int) ∧ o = .slice A' (k + l'.length) c' ∧ wr.ownsRow base 5 1 (.slice A' (k + l'.length) c') (k + l'.length) (xs ++ bs l') ∧ Below base w wr ∧ base ≤ wr.heap.size ∧ q < 18446744073709551616 ∧ Hid (l' ++ nat q = nat m)) (fun _ x _ => (intOf x).toNat)
  case atStart => exact ⟨A, c, m, [], rfl, rfl, by simpa [bs] using ho, Below.refl _ _, hb, hm, rfl⟩
  case round =>
    obtain ⟨A', c', q, l', rfl, rfl, hown, hbel, hbase, hq, hnat⟩ := hrel
    have hl10 := nat_len_u64 hm
    have hll : l'.length ≤ 10 := by have := congrArg List.length hnat.out; simp at this; omega
    by_cases hlt : q < 128
    · have hd : decide ((128 : Int) ≤ (q : Int)) = false := by simp; omega
      have e1 : (q : Int) % 256 = (q : Int) := by omega
      go_wp2_with (at_builtin; refine wpList_app1 _ rfl _ _ 24 _ rfl base 5 (.int .u8 0) 1 Try.underlying24 Try.info5 rfl _ _ _ _ rfl hown _ rfl rfl (by omega) (by unfold maxLen; omega) hbase ?_)
      intro A2 c2 w2 hc2 hown2 _ hb2 hbs2
      go_wp2
      go_ret
      have hfin : nat m = l' ++ [UInt8.ofNat q] := by rw [← hnat.out, nat_small hlt]
      have hlen : k + (nat m).length = k + l'.length + 1 := by rw [hfin]; simp; omega
      have hbs : bs (nat m) = bs l' ++ [Value.int .u8 (q : Int)] := by rw [hfin, bs_app]; simp [bs]; omega
      refine ⟨A2, c2, by rw [hlen]; rfl, ?_, hbel.trans hb2⟩
      rw [hlen, hbs]
      exact hown2
    · have hd : decide ((128 : Int) ≤ (q : Int)) = true := by simp; omega
      have e1 : bits .and .u64 (q : Int) 127 = (q : Int) % 128 := and127 q hq
      have e2 : (q : Int) % 128 % 256 = (q : Int) % 128 := by omega
      have e3 : bits .or .u8 ((q : Int) % 128) 128 = (q : Int) % 128 + 128 := u8_or128_right _ (by omega) (by omega)
      go_wp2_with (at_builtin; refine wpList_app1 _ rfl _ _ 24 _ rfl base 5 (.int .u8 0) 1 Try.underlying24 Try.info5 rfl _ _ _ _ rfl hown _ rfl rfl (by omega) (by unfold maxLen; omega) hbase ?_)
      intro A2 c2 w2 hc2 hown2 _ hb2 hbs2
      go_wp2
      have hbs : bs (l' ++ [UInt8.ofNat (q % 128 + 128)]) = bs l' ++ [Value.int .u8 ((q : Int) % 128 + 128)] := by rw [bs_app]; simp [bs]; omega
      have hlen : k + (l' ++ [UInt8.ofNat (q % 128 + 128)]).length = k + l'.length + 1 := by simp; omega
      refine ⟨⟨A2, c2, q / 128, l' ++ [UInt8.ofNat (q % 128 + 128)], by go_num, by rw [hlen], ?_, hbel.trans hb2, hbs2, by omega, ?_⟩, by simp [intOf]; omega⟩
      · rw [hlen, hbs]; exact hown2
      · show _ = _
        rw [List.append_assoc, List.singleton_append, ← nat_big hlt]; exact hnat.out

set_option maxRecDepth 100000 in
/-- Natural(b, m). -/
theorem natural_c (A : Option Addr) (n c m : Nat) (l : List UInt8) (w : World) (hr : Bts w 0 w.heap.size A n l) (hn : n ≤ 1000000000) (hm : m < 18446744073709551616) :
    Calls Try.prog 28 #[.slice A n c, .int .u64 (m : Int)] w (Row w (l ++ nat m)) := by
  go_enter Try.func28, Try.ntmps28
  go_wp2_with fail
  refine (copyOf_c A n c 10 l w hr (by omega)).mono ?_
  rintro e w1 ⟨A1, c1, rfl, hc1, hown, hb1⟩
  go_wp2_with fail
  refine (addNatural_c A1 l.length c1 (bs l) w.heap.size m w1 hown hb1.size (by have := hr.len; omega) hm).mono ?_
  rintro e w2 ⟨A2, c2, rfl, hown2, hb2⟩
  go_wp2
  go_ret
  have hlen : (l ++ nat m).length = l.length + (nat m).length := by simp
  obtain ⟨A3, c3, h3, hc3⟩ := own_form hown2
  injection h3 with h3 _ h4
  subst h3 h4
  refine ⟨A2, c2, by rw [hlen]; rfl, by rw [hlen]; exact hc3, ?_, hb1.trans hb2⟩
  rw [hlen, bs_app]
  exact hown2

theorem or_low (x : Nat) (h : 2 * x + 1 < 18446744073709551616) : bits .or .u64 ((x : Int) * 2) 1 = (x : Int) * 2 + 1 := by
  have h1 := u64_or_nat (x * 2) 1 (by omega) (by omega)
  have h2 : x * 2 ||| 1 = x * 2 + 1 := by
    have := Nat.shiftLeft_add_eq_or_of_lt (b := 1) (i := 1) (by omega) x
    rw [Nat.shiftLeft_eq, Nat.pow_one] at this
    omega
  rw [h2] at h1
  have h3 : ((x * 2 : Nat) : Int) = (x : Int) * 2 := by omega
  have h4 : ((x * 2 + 1 : Nat) : Int) = (x : Int) * 2 + 1 := by omega
  rw [h3, h4] at h1
  exact h1
theorem xor_low (n : Int) (h1 : -9223372036854775808 ≤ n) (h2 : n < 0) : bits .xor .i64 (-1) n = -1 - n := by
  obtain ⟨a, ha⟩ := Int.eq_ofNat_of_zero_le (show 0 ≤ -1 - n by omega)
  obtain rfl : n = -1 - (a : Int) := by omega
  show IntKind.i64.wrap ((BitVec.ofInt 64 (-1) ^^^ BitVec.ofInt 64 (-1 - (a : Int))).toNat : Int) = _
  have h3 : BitVec.ofInt 64 (-1) = BitVec.allOnes 64 := by decide
  rw [h3, BitVec.allOnes_xor]
  have h4 : BitVec.ofInt 64 (-1 - (a : Int)) = ~~~ (BitVec.ofInt 64 (a : Int)) := by
    apply BitVec.eq_of_toNat_eq
    rw [BitVec.toNat_not, ofInt_u64 a (by omega), BitVec.toNat_ofInt]
    omega
  rw [h4, BitVec.not_not, ofInt_u64 a (by omega), IntKind.wrap_i64]
  omega
theorem ret_u64 {a b : Int} (h : a = b) : Ending.returned (.int .u64 a) = .returned (.int .u64 b) := by rw [h]

set_option maxRecDepth 100000 in
theorem folded_neg (n : Int) (w : World) (h1 : -9223372036854775808 ≤ n) (h2 : n < 0) :
    Calls Try.prog 29 #[.int .i64 n] w fun e w' => e = .returned (.int .u64 (fold n : Int)) ∧ w = w' := by
  have hd : decide (n < 0) = true := by simpa using h2
  have e1 : bits .xor .i64 (-1) n = -1 - n := xor_low n h1 h2
  have e2 : bits .or .u64 ((-1 - n) * 2) 1 = (-1 - n) * 2 + 1 := by
    obtain ⟨x, hx⟩ := Int.eq_ofNat_of_zero_le (show 0 ≤ -1 - n by omega)
    rw [hx]
    exact or_low x (by omega)
  have e3 : IntKind.u64.wrap (-1 - n) = -1 - n := IntWalk.u64_in _ (by omega)
  have e4 : IntKind.u64.wrap ((-1 - n) * 2) = (-1 - n) * 2 := IntWalk.u64_in _ (by omega)
  go_enter Try.func29, Try.ntmps29
  go_wp2
  go_ret
  exact ⟨ret_u64 (by unfold fold; rw [if_pos h2]; omega), rfl⟩
set_option maxRecDepth 100000 in
theorem folded_pos (n : Int) (w : World) (h1 : 0 ≤ n) (h2 : n ≤ 9223372036854775807) :
    Calls Try.prog 29 #[.int .i64 n] w fun e w' => e = .returned (.int .u64 (fold n : Int)) ∧ w = w' := by
  have hd : decide (n < 0) = false := by simp; omega
  go_enter Try.func29, Try.ntmps29
  go_wp2
  go_ret
  exact ⟨ret_u64 (by unfold fold; rw [if_neg (by omega)]; omega), rfl⟩
theorem folded_c (n : Int) (w : World) (h1 : -9223372036854775808 ≤ n) (h2 : n ≤ 9223372036854775807) :
    Calls Try.prog 29 #[.int .i64 n] w fun e w' => e = .returned (.int .u64 (fold n : Int)) ∧ w = w' := by
  by_cases h : n < 0
  · exact folded_neg n w h1 h
  · exact folded_pos n w (by omega) h2

theorem natural_i (A : Option Addr) (n c : Nat) (m : Int) (l : List UInt8) (w : World) (hr : Bts w 0 w.heap.size A n l) (hn : n ≤ 1000000000) (h0 : 0 ≤ m) (hm : m < 18446744073709551616) :
    Calls Try.prog 28 #[.slice A n c, .int .u64 m] w (Row w (l ++ nat m.toNat)) := by
  obtain ⟨k, rfl⟩ := Int.eq_ofNat_of_zero_le h0
  exact natural_c A n c k l w hr hn (by omega)

set_option maxRecDepth 100000 in
/-- Number(b, n). -/
theorem number_c (A : Option Addr) (n c : Nat) (x : Int) (l : List UInt8) (w : World) (hr : Bts w 0 w.heap.size A n l) (hn : n ≤ 1000000000) (h1 : -9223372036854775808 ≤ x) (h2 : x ≤ 9223372036854775807) :
    Calls Try.prog 12 #[.slice A n c, .int .i64 x] w (Row w (l ++ nat (fold x))) := by
  go_enter Try.func12, Try.ntmps12
  go_wp2_with fail
  refine (folded_c x w h1 h2).mono ?_
  rintro e w1 ⟨rfl, rfl⟩
  go_wp2_with fail
  refine (natural_c A n c (fold x) l w hr hn (fold_lt h1 h2)).mono ?_
  rintro e w2 ⟨A2, c2, rfl, hc2, hown2, hb2⟩
  go_wp2
  go_ret
  have hlen : (l ++ nat (fold x)).length = l.length + (nat (fold x)).length := by simp
  exact ⟨A2, c2, by rw [hlen]; rfl, hc2, hown2, hb2⟩
end Go.Proofs.Ytejmllpffocneaa
