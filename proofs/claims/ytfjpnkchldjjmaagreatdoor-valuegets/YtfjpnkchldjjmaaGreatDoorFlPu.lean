/- What Go's library reads in base 16 (strconv.ParseUint with 16 and 64), walked. -/
import Derived.Test.YtfjpnkchldjjmaaGreatDoorFlLw
import Derived.Test.YtfjpnkchldjjmaaGreatDoorFlParse
import Derived.Test.YtfjpnkchldjjmaaGreatDoorFrame
import Derived.Lib.ConvBytes
import Derived.Lib.AtoiErrMem
import Derived.Laws.Strings3
import Derived.Laws.Closers25
import Derived.Laws.Closers25b
import Derived.BigCall
import Derived.BigGuard
namespace Go.Proofs.YtfjpnkchldjjmaaGreatDoor
open Go.RowKit

/-- What the library's own inner reader returns. -/
def PuPost (w : World) (l : List UInt8) (e : Ending) (w' : World) : Prop :=
  Below w.heap.size w w' ∧ ((∃ v : Nat, px l = some v ∧ e = .returned (.tuple #[.int .u64 (v : Int), .nilIface])) ∨ (px l = none ∧ ∃ (x k : Int), (k = 1 ∨ k = 2) ∧ e = .returned (.tuple #[.int .u64 x, .iface 103 (.int .i64 k)])))

theorem low_all : ∀ c : Fin 256, bits .or .u8 (c.val : Int) 32 = ((c.val ||| 32 : Nat) : Int) ∧ (c.val ||| 32) < 256 ∧ (97 ≤ c.val → c.val ≤ 122 → (c.val ||| 32) = c.val) ∧ (65 ≤ c.val → c.val ≤ 90 → (c.val ||| 32) = c.val + 32) ∧ (97 ≤ (c.val ||| 32) → (c.val ||| 32) ≤ 122 → (97 ≤ c.val ∧ c.val ≤ 122) ∨ (65 ≤ c.val ∧ c.val ≤ 90)) := by decide +kernel
theorem low_c (x : Nat) (hx : x < 256) : ∃ y : Nat, (∀ w, Calls Tryz.prog 115 #[.int .u8 (x : Int)] w fun e w' => e = .returned (.int .u8 (y : Int)) ∧ w' = w) ∧ y < 256 ∧ (97 ≤ x → x ≤ 122 → y = x) ∧ (65 ≤ x → x ≤ 90 → y = x + 32) ∧ (97 ≤ y → y ≤ 122 → (97 ≤ x ∧ x ≤ 122) ∨ (65 ≤ x ∧ x ≤ 90)) := by
  obtain ⟨h1, h2, h3, h4, h5⟩ := low_all ⟨x, hx⟩
  refine ⟨x ||| 32, fun w => ?_, h2, h3, h4, h5⟩
  have h := Tryz.internal_strconv_lower (x : Int) w
  rw [show bits .or .u8 (x : Int) 32 = ((x ||| 32 : Nat) : Int) from h1] at h
  exact h

set_option maxHeartbeats 32000000 in
set_option maxRecDepth 100000 in
theorem pu16_c (t : ByteArray) (hmax : t.size ≤ 9223372036854775806) (w : World) :
    Calls Tryz.prog 103 #[.string t, .int .i64 16, .int .i64 64] w (PuPost w t.data.toList) := by
  by_cases hne : t.size = 0
  · have hl : t.data.toList = [] := by
      have : t.data.toList.length = t.size := Array.length_toList
      exact List.eq_nil_of_length_eq_zero (by omega)
    have ht : t = ⟨#[]⟩ := by
      cases t with
      | mk d => simp at hl; rw [hl]
    subst ht
    go_enter Tryz.func103, Tryz.ntmps103
    go_wp2
    go_ret2
    exact ⟨Below.refl _ _, .inr ⟨rfl, 0, 2, .inr rfl, rfl⟩⟩
  have hemp : t.toList.isEmpty = false := by
    rw [← decide_eq_emptyBytes]
    exact decide_eq_false (fun h => hne (by rw [h]; rfl))
  have hcv := Lib.run_convert_string_bytes (P := Tryz.prog) w 9 22 5 t (u := .string) Tryz.underlying9 Tryz.underlying22 Tryz.underlying5
  have hB : ∀ j, j < t.size → (Lib.bytesWorld w 5 t).cell? ⟨w.heap.size, j, none⟩ = some (.int .u8 (t.data.toList.getD j 0).toNat) := fun j hj => Lib.bytesWorld_cell w 5 t j hj
  have hbel := Lib.bytesWorld_below w 5 t
  obtain ⟨W1, hW1⟩ : ∃ W1, W1 = Lib.bytesWorld w 5 t := ⟨_, rfl⟩
  rw [← hW1] at hcv hB hbel
  clear hW1
  obtain ⟨l, hL⟩ : ∃ l, l = t.data.toList := ⟨_, rfl⟩
  have hLn : l.length = t.size := by rw [hL]; exact Array.length_toList
  rw [← hL] at hB ⊢
  clear hL
  have hpx : px l = hx l 0 := by unfold px; rw [if_neg (by intro h; rw [h] at hLn; simp at hLn; omega)]
  have hmv : IntKind.u64.wrap (IntKind.u64.wrap 18446744073709551616 - 1) = 18446744073709551615 := by
    rw [IntKind.wrap_u64, IntKind.wrap_u64]
    decide
  have HPX := hid hpx
  have HBEL := hid hbel
  clear hpx hbel
  go_enter Tryz.func103, Tryz.ntmps103
  go_wp2_with fail
  go_loop [12, 13, 101] (fun vu vn vi => ∃ (k acc : Nat) (a : Int), vu = .bool false ∧ vn = .int .u64 a ∧ vi = .int .i64 k ∧ k ≤ t.size ∧ Hid (a = (acc : Int) ∧ acc < 18446744073709551616 ∧ hx l 0 = hx (l.drop k) acc))
    (fun _ _ vi => t.size - (intOf vi).toNat)
  case atStart => exact ⟨0, 0, 0, rfl, rfl, rfl, by omega, hid ⟨rfl, by omega, rfl⟩⟩
  case round =>
    obtain ⟨k, acc, a, rfl, rfl, rfl, hk, hh⟩ := hrel
    obtain ⟨ha, hacc, hdec⟩ := hh.out
    clear hh
    have a0 : 0 ≤ a := by omega
    have a1 : a < 18446744073709551616 := by omega
    by_cases hkn : k < t.size
    · have hc := hB k hkn
      have hdrop : l.drop k = l[k]'(by omega) :: l.drop (k + 1) := List.drop_eq_getElem_cons (by omega)
      have hget : l.getD k 0 = l[k]'(by omega) := by simp [List.getD, List.getElem?_eq_getElem (show k < l.length by omega)]
      rw [hdrop] at hdec
      rw [hget] at hc
      generalize l[k]'(by omega) = c at hc hdec
      have hc256 : c.toNat < 256 := c.toNat_lt
      clear hB hdrop hget
      obtain ⟨x, hx0⟩ : ∃ x, x = c.toNat := ⟨_, rfl⟩
      rw [← hx0] at hc hc256
      obtain ⟨y, hlow, hy256, hyl, hyu, hyr⟩ := low_c x hc256
      have HLOW := hid hlow
      clear hlow
      by_cases hdig : 48 ≤ x ∧ x ≤ 57
      · obtain ⟨hd0, hd1⟩ := hdig
        have ho : hexo c = some (x - 48) := by unfold hexo; rw [← hx0, if_pos ⟨hd0, hd1⟩]
        by_cases hcut : acc < 1152921504606846976
        · have HN : Hid (a * 16 + ((x : Int) - 48) = ((16 * acc + (x - 48) : Nat) : Int) ∧ 16 * acc + (x - 48) < 18446744073709551616 ∧ hx l 0 = hx (l.drop (k + 1)) (16 * acc + (x - 48))) := hid ⟨by omega, by omega, hdec.trans (hx_one ho hcut)⟩
          have icut : a < 1152921504606846976 := by omega
          have iov : a * 16 + ((x : Int) - 48) < 18446744073709551616 := by omega
          clear hcut hacc hdec ha ho hyl hyu hyr hx0
          go_wp2
          refine ⟨⟨k + 1, 16 * acc + (x - 48), a * 16 + ((x : Int) - 48), rfl, (by first | rfl | (congr 1; omega)), (by first | rfl | (congr 1; omega)), by omega, HN⟩, by simp [intOf]; omega⟩
        · have HR : Hid (px l = none) := hid (HPX.out.trans (hdec.trans (hx_big ho hcut)))
          have icut : 1152921504606846976 ≤ a := by omega
          clear hcut hacc hdec ha ho hyl hyu hyr hx0
          go_wp2
          go_ret2
          exact ⟨HBEL.out, .inr ⟨HR.out, _, 1, .inl rfl, rfl⟩⟩
      · by_cases hlet : (97 ≤ x ∧ x ≤ 102) ∨ (65 ≤ x ∧ x ≤ 70)
        · have ho : hexo c = some (y - 87) := by
            unfold hexo
            rw [← hx0, if_neg hdig]
            rcases hlet with h | h
            · rw [if_pos h, hyl h.1 (by omega)]
            · rw [if_neg (by omega), if_pos h, hyu h.1 (by omega)]; congr 1
          have hy0 : 97 ≤ y := by rcases hlet with h | h <;> omega
          have hy1 : y ≤ 102 := by rcases hlet with h | h <;> omega
          have e1 : ((x : Int) == 95) = false := by simp; omega
          have e2 : (decide ((48 : Int) ≤ (x : Int)) && decide ((x : Int) ≤ 57)) = false := by simp; omega
          have e3 : decide ((48 : Int) ≤ (x : Int)) = true := by simp; omega
          have e4 : decide ((x : Int) ≤ 57) = false := by simp; omega
          have hx57 : ¬ x ≤ 57 := by omega
          have hx48 : 48 ≤ x := by omega
          have hx95 : ¬ x = 95 := by omega
          by_cases hcut : acc < 1152921504606846976
          · have HN : Hid (a * 16 + ((y : Int) - 87) = ((16 * acc + (y - 87) : Nat) : Int) ∧ 16 * acc + (y - 87) < 18446744073709551616 ∧ hx l 0 = hx (l.drop (k + 1)) (16 * acc + (y - 87))) := hid ⟨by omega, by omega, hdec.trans (hx_one ho hcut)⟩
            have icut : a < 1152921504606846976 := by omega
            have iov : a * 16 + ((y : Int) - 87) < 18446744073709551616 := by omega
            clear hcut hacc hdec ha ho hyl hyu hyr hx0 hlet hdig
            go_wp2_with (go_at_call 115; refine (HLOW.out _).mono ?_; rintro e w' ⟨rfl, rfl⟩)
            refine ⟨⟨k + 1, 16 * acc + (y - 87), a * 16 + ((y : Int) - 87), rfl, (by first | rfl | (congr 1; omega)), (by first | rfl | (congr 1; omega)), by omega, HN⟩, by simp [intOf]; omega⟩
          · have HR : Hid (px l = none) := hid (HPX.out.trans (hdec.trans (hx_big ho hcut)))
            have icut : 1152921504606846976 ≤ a := by omega
            clear hcut hacc hdec ha ho hyl hyu hyr hx0 hlet hdig
            go_wp2_with (go_at_call 115; refine (HLOW.out _).mono ?_; rintro e w' ⟨rfl, rfl⟩)
            go_ret2
            exact ⟨HBEL.out, .inr ⟨HR.out, _, 1, .inl rfl, rfl⟩⟩
        · have ho : hexo c = none := by
            unfold hexo
            rw [← hx0, if_neg hdig, if_neg (by omega), if_neg (by omega)]
          have HR : Hid (px l = none) := hid (HPX.out.trans (hdec.trans (hx_bad ho)))
          by_cases hrange : 97 ≤ y ∧ y ≤ 122
          · obtain ⟨hy0, hy1⟩ := hrange
            have hy2 : 103 ≤ y := by rcases hyr hy0 hy1 with h | h <;> omega
            have hxx : (97 ≤ x ∧ x ≤ 122) ∨ (65 ≤ x ∧ x ≤ 90) := hyr hy0 hy1
            have hx57 : ¬ x ≤ 57 := by omega
            have hx48 : 48 ≤ x := by omega
            have hx95 : ¬ x = 95 := by omega
            clear hacc hdec ha ho hyl hyu hyr hx0 hlet hdig hxx
            go_wp2_with (go_at_call 115; refine (HLOW.out _).mono ?_; rintro e w' ⟨rfl, rfl⟩)
            go_ret2
            exact ⟨HBEL.out, .inr ⟨HR.out, _, 2, .inr rfl, rfl⟩⟩
          · have hyn : ¬ 97 ≤ y ∨ ¬ y ≤ 122 := by omega
            have hxn : ¬ 48 ≤ x ∨ ¬ x ≤ 57 := by omega
            clear hacc hdec ha ho hyl hyu hyr hx0 hlet hdig hrange
            by_cases h95 : x = 95
            · have h1 : ((x : Int) == 95) = true := by simp; omega
              have hx48 : 48 ≤ x := by omega
              have hx57 : ¬ x ≤ 57 := by omega
              clear h95 hxn
              rcases hyn with hyn | hyn
              · go_wp2_with (go_at_call 115; refine (HLOW.out _).mono ?_; rintro e w' ⟨rfl, rfl⟩)
                go_ret2
                exact ⟨HBEL.out, .inr ⟨HR.out, _, 2, .inr rfl, rfl⟩⟩
              · have hy0 : 97 ≤ y := by omega
                go_wp2_with (go_at_call 115; refine (HLOW.out _).mono ?_; rintro e w' ⟨rfl, rfl⟩)
                go_ret2
                exact ⟨HBEL.out, .inr ⟨HR.out, _, 2, .inr rfl, rfl⟩⟩
            · have h1 : ((x : Int) == 95) = false := by simp; omega
              rcases hxn with hxn | hxn
              · rcases hyn with hyn | hyn
                · clear h95
                  go_wp2_with (go_at_call 115; refine (HLOW.out _).mono ?_; rintro e w' ⟨rfl, rfl⟩)
                  go_ret2
                  exact ⟨HBEL.out, .inr ⟨HR.out, _, 2, .inr rfl, rfl⟩⟩
                · have hy0 : 97 ≤ y := by omega
                  clear h95
                  go_wp2_with (go_at_call 115; refine (HLOW.out _).mono ?_; rintro e w' ⟨rfl, rfl⟩)
                  go_ret2
                  exact ⟨HBEL.out, .inr ⟨HR.out, _, 2, .inr rfl, rfl⟩⟩
              · have hx48 : 48 ≤ x := by omega
                rcases hyn with hyn | hyn
                · clear h95
                  go_wp2_with (go_at_call 115; refine (HLOW.out _).mono ?_; rintro e w' ⟨rfl, rfl⟩)
                  go_ret2
                  exact ⟨HBEL.out, .inr ⟨HR.out, _, 2, .inr rfl, rfl⟩⟩
                · have hy0 : 97 ≤ y := by omega
                  clear h95
                  go_wp2_with (go_at_call 115; refine (HLOW.out _).mono ?_; rintro e w' ⟨rfl, rfl⟩)
                  go_ret2
                  exact ⟨HBEL.out, .inr ⟨HR.out, _, 2, .inr rfl, rfl⟩⟩
    · have hkk : k = t.size := by omega
      subst hkk
      have HR : Hid (px l = some acc) := hid (HPX.out.trans (hdec.trans (by rw [List.drop_eq_nil_of_le (by omega)]; rfl)))
      subst ha
      clear hacc hdec a0 a1
      go_wp2
      go_ret2
      exact ⟨HBEL.out, .inl ⟨acc, HR.out, rfl⟩⟩
end Go.Proofs.YtfjpnkchldjjmaaGreatDoor
