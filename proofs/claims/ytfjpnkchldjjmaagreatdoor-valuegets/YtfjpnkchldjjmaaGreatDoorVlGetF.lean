/- What value.getFloat returns: eight bytes of a reader as a number, the lowest first. -/
import Derived.Test.YtfjpnkchldjjmaaGreatDoorVlText
import Derived.Test.YtfjpnkchldjjmaaGreatDoorVlStr
import Derived.Test.YtfjpnkchldjjmaaGreatDoorPkW2
namespace Go.Proofs.YtfjpnkchldjjmaaGreatDoor
open Go.RowKit

theorem unle_app : ∀ (a b : List UInt8), unle (a ++ b) = unle a + 256 ^ a.length * unle b
  | [], b => by simp [unle]
  | c :: r, b => by
    rw [List.cons_append, unle, unle, unle_app r b, List.length_cons, Nat.pow_succ, Nat.mul_add, ← Nat.mul_assoc, Nat.mul_comm 256 (256 ^ r.length)]
    omega
theorem unle_take {l : List UInt8} {j : Nat} {c : UInt8} (h : l[j]? = some c) : unle (l.take (j + 1)) = unle (l.take j) + c.toNat * 256 ^ j := by
  obtain ⟨h1, h2⟩ := List.getElem?_eq_some_iff.1 h
  rw [List.take_succ_eq_append_getElem h1, unle_app, h2, List.length_take, Nat.min_eq_left (by omega), Nat.mul_comm]
  simp [unle]
theorem unle_lt : ∀ (l : List UInt8), unle l < 256 ^ l.length
  | [] => by simp [unle]
  | c :: r => by
    have h1 := unle_lt r
    have h2 := c.toNat_lt
    rw [unle, List.length_cons, Nat.pow_succ]
    omega
theorem unle_tlt (l : List UInt8) (j : Nat) : unle (l.take j) < 256 ^ j := by
  have h := unle_lt (l.take j)
  have h2 : (l.take j).length ≤ j := by rw [List.length_take]; omega
  exact Nat.lt_of_lt_of_le h (Nat.pow_le_pow_right (by decide) h2)
theorem or256 (n c i : Nat) (hn : n < 256 ^ i) (hc : c < 256) (hi : i < 8) : bits .or .u64 (n : Int) ((c * 256 ^ i : Nat) : Int) = ((n + c * 256 ^ i : Nat) : Int) := by
  have hp : (256 : Nat) ^ i ≤ 256 ^ 7 := Nat.pow_le_pow_right (by decide) (by omega)
  have e7 : (256 : Nat) ^ 7 = 72057594037927936 := by decide
  have hcm : c * 256 ^ i ≤ 255 * 256 ^ i := Nat.mul_le_mul_right _ (by omega)
  rw [u64_or_nat n _ (by omega) (by omega)]
  have h2 : (256 : Nat) ^ i = 2 ^ (8 * i) := by rw [Nat.pow_mul]
  have h3 := Nat.shiftLeft_add_eq_or_of_lt (b := n) (i := 8 * i) (by rw [← h2]; exact hn) c
  rw [Nat.shiftLeft_eq, ← h2] at h3
  rw [Nat.or_comm, ← h3, Nat.add_comm]
def GF (l : List UInt8) (w : World) (lo g : Nat) (e : Ending) (w' : World) : Prop :=
  (8 ≤ l.length ∧ e = .returned (.tuple #[.int .u64 ((unle (l.take 8) : Nat) : Int), .bool true]) ∧ Rd w' lo g (l.drop 8) ∧ w.grownBy w' (some g)) ∨ (l.length < 8 ∧ e = .returned (.tuple #[.int .u64 0, .bool false]) ∧ w.grownBy w' (some g))

set_option maxRecDepth 20000 in
set_option maxHeartbeats 4000000 in
theorem getFloat_c (w : World) (lo g : Nat) (l : List UInt8) (h : Rd w lo g l) :
    Calls Tryz.prog 31 #[.pointer (some ⟨g, 0, none⟩)] w (GF l w lo g) := by
  have H0 := hid h
  clear h
  go_enter Tryz.func31, Tryz.ntmps31
  go_wp2_with fail
  go_loopw [4, 8] (fun uv iv wr => ∃ (j u : Nat), iv = .int .i64 (j : Int) ∧ uv = .int .u64 (u : Int) ∧ Hid (Rd wr lo g (l.drop j)) ∧ Hid (w.grownBy wr (some g)) ∧ Hid (j ≤ 8 ∧ j ≤ l.length ∧ u = unle (l.take j))) (fun _ iv _ => 8 - (intOf iv).toNat)
  case atStart => exact ⟨0, 0, rfl, rfl, H0, hid (grown_refl _ _), hid ⟨by omega, Nat.zero_le _, rfl⟩⟩
  case round =>
    obtain ⟨j, u, rfl, rfl, hrd, hgr, hh⟩ := hrel
    have hcases : j = 0 ∨ j = 1 ∨ j = 2 ∨ j = 3 ∨ j = 4 ∨ j = 5 ∨ j = 6 ∨ j = 7 ∨ j = 8 := by have := hh.out; omega
    clear H0
    rcases hcases with rfl | rfl | rfl | rfl | rfl | rfl | rfl | rfl | rfl
    · by_cases hl : 0 < l.length
      · obtain ⟨c, hc⟩ : ∃ c, l[0]? = some c := ⟨_, List.getElem?_eq_getElem hl⟩
        have hdr : l.drop 0 = c :: l.drop 1 := by
          obtain ⟨h1, h2⟩ := List.getElem?_eq_some_iff.1 hc
          rw [List.drop_eq_getElem_cons h1, h2]
        obtain ⟨v, hv⟩ : ∃ v, v = u + c.toNat * 256 ^ 0 := ⟨_, rfl⟩
        have hu := hh.out.2.2
        have hvt : v = unle (l.take 1) := by rw [unle_take hc, hv, hu]
        have hor := or256 u c.toNat 0 (by rw [hu]; exact unle_tlt l 0) c.toNat_lt (by decide)
        rw [← hv] at hor
        have e1 : (c.toNat : Int) * 1 = ((c.toNat * 256 ^ 0 : Nat) : Int) := by omega
        have e2 : IntKind.u64.wrap ((c.toNat : Int) * 1) = (c.toNat : Int) * 1 := IntWalk.u64_in _ (by have := c.toNat_lt; omega)
        have e0 : IntKind.u64.wrap (c.toNat : Int) = (c.toNat : Int) := IntWalk.u64_in _ (by have := c.toNat_lt; omega)
        have e3 : bits .or .u64 (u : Int) ((c.toNat : Int) * 1) = (v : Int) := by rw [e1]; exact hor
        have e4 : bits .or .u64 (u : Int) (c.toNat : Int) = (v : Int) := by rw [← e3]; congr 1; omega
        have HB := hid (byte_good wr lo g c (l.drop 1) (by rw [← hdr]; exact hrd.out))
        have HN : Hid (1 ≤ 8 ∧ 1 ≤ l.length ∧ v = unle (l.take 1)) := hid ⟨by decide, hl, hvt⟩
        clear hc hdr hv hu hvt hor e1 hl hh hrd
        go_wp2_with fail
        refine HB.out.mono ?_
        rintro e w2 ⟨rfl, hr2, hg2⟩
        have HR2 := hid hr2
        have HG2 := hid (hgr.out.trans hg2)
        clear hr2 hg2 HB hgr
        go_wp2
        exact ⟨⟨1, v, rfl, rfl, HR2, HG2, HN⟩, by decide⟩
      · have hdr : l.drop 0 = [] := List.drop_of_length_le (by omega)
        have HB := hid (byte_end wr lo g (by rw [← hdr]; exact hrd.out))
        have HN : Hid (l.length < 8) := hid (by omega)
        clear hdr hl hh hrd
        go_wp2_with fail
        refine HB.out.mono ?_
        rintro e w2 ⟨rfl, hr2, hg2⟩
        have HG2 := hid (hgr.out.trans hg2)
        clear hr2 hg2 HB hgr
        go_wp2
        go_ret2
        exact .inr ⟨HN.out, rfl, HG2.out⟩
    · by_cases hl : 1 < l.length
      · obtain ⟨c, hc⟩ : ∃ c, l[1]? = some c := ⟨_, List.getElem?_eq_getElem hl⟩
        have hdr : l.drop 1 = c :: l.drop 2 := by
          obtain ⟨h1, h2⟩ := List.getElem?_eq_some_iff.1 hc
          rw [List.drop_eq_getElem_cons h1, h2]
        obtain ⟨v, hv⟩ : ∃ v, v = u + c.toNat * 256 ^ 1 := ⟨_, rfl⟩
        have hu := hh.out.2.2
        have hvt : v = unle (l.take 2) := by rw [unle_take hc, hv, hu]
        have hor := or256 u c.toNat 1 (by rw [hu]; exact unle_tlt l 1) c.toNat_lt (by decide)
        rw [← hv] at hor
        have e1 : (c.toNat : Int) * 256 = ((c.toNat * 256 ^ 1 : Nat) : Int) := by omega
        have e2 : IntKind.u64.wrap ((c.toNat : Int) * 256) = (c.toNat : Int) * 256 := IntWalk.u64_in _ (by have := c.toNat_lt; omega)
        have e0 : IntKind.u64.wrap (c.toNat : Int) = (c.toNat : Int) := IntWalk.u64_in _ (by have := c.toNat_lt; omega)
        have e3 : bits .or .u64 (u : Int) ((c.toNat : Int) * 256) = (v : Int) := by rw [e1]; exact hor
        have HB := hid (byte_good wr lo g c (l.drop 2) (by rw [← hdr]; exact hrd.out))
        have HN : Hid (2 ≤ 8 ∧ 2 ≤ l.length ∧ v = unle (l.take 2)) := hid ⟨by decide, hl, hvt⟩
        clear hc hdr hv hu hvt hor e1 hl hh hrd
        go_wp2_with fail
        refine HB.out.mono ?_
        rintro e w2 ⟨rfl, hr2, hg2⟩
        have HR2 := hid hr2
        have HG2 := hid (hgr.out.trans hg2)
        clear hr2 hg2 HB hgr
        go_wp2
        exact ⟨⟨2, v, rfl, rfl, HR2, HG2, HN⟩, by decide⟩
      · have hdr : l.drop 1 = [] := List.drop_of_length_le (by omega)
        have HB := hid (byte_end wr lo g (by rw [← hdr]; exact hrd.out))
        have HN : Hid (l.length < 8) := hid (by omega)
        clear hdr hl hh hrd
        go_wp2_with fail
        refine HB.out.mono ?_
        rintro e w2 ⟨rfl, hr2, hg2⟩
        have HG2 := hid (hgr.out.trans hg2)
        clear hr2 hg2 HB hgr
        go_wp2
        go_ret2
        exact .inr ⟨HN.out, rfl, HG2.out⟩
    · by_cases hl : 2 < l.length
      · obtain ⟨c, hc⟩ : ∃ c, l[2]? = some c := ⟨_, List.getElem?_eq_getElem hl⟩
        have hdr : l.drop 2 = c :: l.drop 3 := by
          obtain ⟨h1, h2⟩ := List.getElem?_eq_some_iff.1 hc
          rw [List.drop_eq_getElem_cons h1, h2]
        obtain ⟨v, hv⟩ : ∃ v, v = u + c.toNat * 256 ^ 2 := ⟨_, rfl⟩
        have hu := hh.out.2.2
        have hvt : v = unle (l.take 3) := by rw [unle_take hc, hv, hu]
        have hor := or256 u c.toNat 2 (by rw [hu]; exact unle_tlt l 2) c.toNat_lt (by decide)
        rw [← hv] at hor
        have e1 : (c.toNat : Int) * 65536 = ((c.toNat * 256 ^ 2 : Nat) : Int) := by omega
        have e2 : IntKind.u64.wrap ((c.toNat : Int) * 65536) = (c.toNat : Int) * 65536 := IntWalk.u64_in _ (by have := c.toNat_lt; omega)
        have e0 : IntKind.u64.wrap (c.toNat : Int) = (c.toNat : Int) := IntWalk.u64_in _ (by have := c.toNat_lt; omega)
        have e3 : bits .or .u64 (u : Int) ((c.toNat : Int) * 65536) = (v : Int) := by rw [e1]; exact hor
        have HB := hid (byte_good wr lo g c (l.drop 3) (by rw [← hdr]; exact hrd.out))
        have HN : Hid (3 ≤ 8 ∧ 3 ≤ l.length ∧ v = unle (l.take 3)) := hid ⟨by decide, hl, hvt⟩
        clear hc hdr hv hu hvt hor e1 hl hh hrd
        go_wp2_with fail
        refine HB.out.mono ?_
        rintro e w2 ⟨rfl, hr2, hg2⟩
        have HR2 := hid hr2
        have HG2 := hid (hgr.out.trans hg2)
        clear hr2 hg2 HB hgr
        go_wp2
        exact ⟨⟨3, v, rfl, rfl, HR2, HG2, HN⟩, by decide⟩
      · have hdr : l.drop 2 = [] := List.drop_of_length_le (by omega)
        have HB := hid (byte_end wr lo g (by rw [← hdr]; exact hrd.out))
        have HN : Hid (l.length < 8) := hid (by omega)
        clear hdr hl hh hrd
        go_wp2_with fail
        refine HB.out.mono ?_
        rintro e w2 ⟨rfl, hr2, hg2⟩
        have HG2 := hid (hgr.out.trans hg2)
        clear hr2 hg2 HB hgr
        go_wp2
        go_ret2
        exact .inr ⟨HN.out, rfl, HG2.out⟩
    · by_cases hl : 3 < l.length
      · obtain ⟨c, hc⟩ : ∃ c, l[3]? = some c := ⟨_, List.getElem?_eq_getElem hl⟩
        have hdr : l.drop 3 = c :: l.drop 4 := by
          obtain ⟨h1, h2⟩ := List.getElem?_eq_some_iff.1 hc
          rw [List.drop_eq_getElem_cons h1, h2]
        obtain ⟨v, hv⟩ : ∃ v, v = u + c.toNat * 256 ^ 3 := ⟨_, rfl⟩
        have hu := hh.out.2.2
        have hvt : v = unle (l.take 4) := by rw [unle_take hc, hv, hu]
        have hor := or256 u c.toNat 3 (by rw [hu]; exact unle_tlt l 3) c.toNat_lt (by decide)
        rw [← hv] at hor
        have e1 : (c.toNat : Int) * 16777216 = ((c.toNat * 256 ^ 3 : Nat) : Int) := by omega
        have e2 : IntKind.u64.wrap ((c.toNat : Int) * 16777216) = (c.toNat : Int) * 16777216 := IntWalk.u64_in _ (by have := c.toNat_lt; omega)
        have e0 : IntKind.u64.wrap (c.toNat : Int) = (c.toNat : Int) := IntWalk.u64_in _ (by have := c.toNat_lt; omega)
        have e3 : bits .or .u64 (u : Int) ((c.toNat : Int) * 16777216) = (v : Int) := by rw [e1]; exact hor
        have HB := hid (byte_good wr lo g c (l.drop 4) (by rw [← hdr]; exact hrd.out))
        have HN : Hid (4 ≤ 8 ∧ 4 ≤ l.length ∧ v = unle (l.take 4)) := hid ⟨by decide, hl, hvt⟩
        clear hc hdr hv hu hvt hor e1 hl hh hrd
        go_wp2_with fail
        refine HB.out.mono ?_
        rintro e w2 ⟨rfl, hr2, hg2⟩
        have HR2 := hid hr2
        have HG2 := hid (hgr.out.trans hg2)
        clear hr2 hg2 HB hgr
        go_wp2
        exact ⟨⟨4, v, rfl, rfl, HR2, HG2, HN⟩, by decide⟩
      · have hdr : l.drop 3 = [] := List.drop_of_length_le (by omega)
        have HB := hid (byte_end wr lo g (by rw [← hdr]; exact hrd.out))
        have HN : Hid (l.length < 8) := hid (by omega)
        clear hdr hl hh hrd
        go_wp2_with fail
        refine HB.out.mono ?_
        rintro e w2 ⟨rfl, hr2, hg2⟩
        have HG2 := hid (hgr.out.trans hg2)
        clear hr2 hg2 HB hgr
        go_wp2
        go_ret2
        exact .inr ⟨HN.out, rfl, HG2.out⟩
    · by_cases hl : 4 < l.length
      · obtain ⟨c, hc⟩ : ∃ c, l[4]? = some c := ⟨_, List.getElem?_eq_getElem hl⟩
        have hdr : l.drop 4 = c :: l.drop 5 := by
          obtain ⟨h1, h2⟩ := List.getElem?_eq_some_iff.1 hc
          rw [List.drop_eq_getElem_cons h1, h2]
        obtain ⟨v, hv⟩ : ∃ v, v = u + c.toNat * 256 ^ 4 := ⟨_, rfl⟩
        have hu := hh.out.2.2
        have hvt : v = unle (l.take 5) := by rw [unle_take hc, hv, hu]
        have hor := or256 u c.toNat 4 (by rw [hu]; exact unle_tlt l 4) c.toNat_lt (by decide)
        rw [← hv] at hor
        have e1 : (c.toNat : Int) * 4294967296 = ((c.toNat * 256 ^ 4 : Nat) : Int) := by omega
        have e2 : IntKind.u64.wrap ((c.toNat : Int) * 4294967296) = (c.toNat : Int) * 4294967296 := IntWalk.u64_in _ (by have := c.toNat_lt; omega)
        have e0 : IntKind.u64.wrap (c.toNat : Int) = (c.toNat : Int) := IntWalk.u64_in _ (by have := c.toNat_lt; omega)
        have e3 : bits .or .u64 (u : Int) ((c.toNat : Int) * 4294967296) = (v : Int) := by rw [e1]; exact hor
        have HB := hid (byte_good wr lo g c (l.drop 5) (by rw [← hdr]; exact hrd.out))
        have HN : Hid (5 ≤ 8 ∧ 5 ≤ l.length ∧ v = unle (l.take 5)) := hid ⟨by decide, hl, hvt⟩
        clear hc hdr hv hu hvt hor e1 hl hh hrd
        go_wp2_with fail
        refine HB.out.mono ?_
        rintro e w2 ⟨rfl, hr2, hg2⟩
        have HR2 := hid hr2
        have HG2 := hid (hgr.out.trans hg2)
        clear hr2 hg2 HB hgr
        go_wp2
        exact ⟨⟨5, v, rfl, rfl, HR2, HG2, HN⟩, by decide⟩
      · have hdr : l.drop 4 = [] := List.drop_of_length_le (by omega)
        have HB := hid (byte_end wr lo g (by rw [← hdr]; exact hrd.out))
        have HN : Hid (l.length < 8) := hid (by omega)
        clear hdr hl hh hrd
        go_wp2_with fail
        refine HB.out.mono ?_
        rintro e w2 ⟨rfl, hr2, hg2⟩
        have HG2 := hid (hgr.out.trans hg2)
        clear hr2 hg2 HB hgr
        go_wp2
        go_ret2
        exact .inr ⟨HN.out, rfl, HG2.out⟩
    · by_cases hl : 5 < l.length
      · obtain ⟨c, hc⟩ : ∃ c, l[5]? = some c := ⟨_, List.getElem?_eq_getElem hl⟩
        have hdr : l.drop 5 = c :: l.drop 6 := by
          obtain ⟨h1, h2⟩ := List.getElem?_eq_some_iff.1 hc
          rw [List.drop_eq_getElem_cons h1, h2]
        obtain ⟨v, hv⟩ : ∃ v, v = u + c.toNat * 256 ^ 5 := ⟨_, rfl⟩
        have hu := hh.out.2.2
        have hvt : v = unle (l.take 6) := by rw [unle_take hc, hv, hu]
        have hor := or256 u c.toNat 5 (by rw [hu]; exact unle_tlt l 5) c.toNat_lt (by decide)
        rw [← hv] at hor
        have e1 : (c.toNat : Int) * 1099511627776 = ((c.toNat * 256 ^ 5 : Nat) : Int) := by omega
        have e2 : IntKind.u64.wrap ((c.toNat : Int) * 1099511627776) = (c.toNat : Int) * 1099511627776 := IntWalk.u64_in _ (by have := c.toNat_lt; omega)
        have e0 : IntKind.u64.wrap (c.toNat : Int) = (c.toNat : Int) := IntWalk.u64_in _ (by have := c.toNat_lt; omega)
        have e3 : bits .or .u64 (u : Int) ((c.toNat : Int) * 1099511627776) = (v : Int) := by rw [e1]; exact hor
        have HB := hid (byte_good wr lo g c (l.drop 6) (by rw [← hdr]; exact hrd.out))
        have HN : Hid (6 ≤ 8 ∧ 6 ≤ l.length ∧ v = unle (l.take 6)) := hid ⟨by decide, hl, hvt⟩
        clear hc hdr hv hu hvt hor e1 hl hh hrd
        go_wp2_with fail
        refine HB.out.mono ?_
        rintro e w2 ⟨rfl, hr2, hg2⟩
        have HR2 := hid hr2
        have HG2 := hid (hgr.out.trans hg2)
        clear hr2 hg2 HB hgr
        go_wp2
        exact ⟨⟨6, v, rfl, rfl, HR2, HG2, HN⟩, by decide⟩
      · have hdr : l.drop 5 = [] := List.drop_of_length_le (by omega)
        have HB := hid (byte_end wr lo g (by rw [← hdr]; exact hrd.out))
        have HN : Hid (l.length < 8) := hid (by omega)
        clear hdr hl hh hrd
        go_wp2_with fail
        refine HB.out.mono ?_
        rintro e w2 ⟨rfl, hr2, hg2⟩
        have HG2 := hid (hgr.out.trans hg2)
        clear hr2 hg2 HB hgr
        go_wp2
        go_ret2
        exact .inr ⟨HN.out, rfl, HG2.out⟩
    · by_cases hl : 6 < l.length
      · obtain ⟨c, hc⟩ : ∃ c, l[6]? = some c := ⟨_, List.getElem?_eq_getElem hl⟩
        have hdr : l.drop 6 = c :: l.drop 7 := by
          obtain ⟨h1, h2⟩ := List.getElem?_eq_some_iff.1 hc
          rw [List.drop_eq_getElem_cons h1, h2]
        obtain ⟨v, hv⟩ : ∃ v, v = u + c.toNat * 256 ^ 6 := ⟨_, rfl⟩
        have hu := hh.out.2.2
        have hvt : v = unle (l.take 7) := by rw [unle_take hc, hv, hu]
        have hor := or256 u c.toNat 6 (by rw [hu]; exact unle_tlt l 6) c.toNat_lt (by decide)
        rw [← hv] at hor
        have e1 : (c.toNat : Int) * 281474976710656 = ((c.toNat * 256 ^ 6 : Nat) : Int) := by omega
        have e2 : IntKind.u64.wrap ((c.toNat : Int) * 281474976710656) = (c.toNat : Int) * 281474976710656 := IntWalk.u64_in _ (by have := c.toNat_lt; omega)
        have e0 : IntKind.u64.wrap (c.toNat : Int) = (c.toNat : Int) := IntWalk.u64_in _ (by have := c.toNat_lt; omega)
        have e3 : bits .or .u64 (u : Int) ((c.toNat : Int) * 281474976710656) = (v : Int) := by rw [e1]; exact hor
        have HB := hid (byte_good wr lo g c (l.drop 7) (by rw [← hdr]; exact hrd.out))
        have HN : Hid (7 ≤ 8 ∧ 7 ≤ l.length ∧ v = unle (l.take 7)) := hid ⟨by decide, hl, hvt⟩
        clear hc hdr hv hu hvt hor e1 hl hh hrd
        go_wp2_with fail
        refine HB.out.mono ?_
        rintro e w2 ⟨rfl, hr2, hg2⟩
        have HR2 := hid hr2
        have HG2 := hid (hgr.out.trans hg2)
        clear hr2 hg2 HB hgr
        go_wp2
        exact ⟨⟨7, v, rfl, rfl, HR2, HG2, HN⟩, by decide⟩
      · have hdr : l.drop 6 = [] := List.drop_of_length_le (by omega)
        have HB := hid (byte_end wr lo g (by rw [← hdr]; exact hrd.out))
        have HN : Hid (l.length < 8) := hid (by omega)
        clear hdr hl hh hrd
        go_wp2_with fail
        refine HB.out.mono ?_
        rintro e w2 ⟨rfl, hr2, hg2⟩
        have HG2 := hid (hgr.out.trans hg2)
        clear hr2 hg2 HB hgr
        go_wp2
        go_ret2
        exact .inr ⟨HN.out, rfl, HG2.out⟩
    · by_cases hl : 7 < l.length
      · obtain ⟨c, hc⟩ : ∃ c, l[7]? = some c := ⟨_, List.getElem?_eq_getElem hl⟩
        have hdr : l.drop 7 = c :: l.drop 8 := by
          obtain ⟨h1, h2⟩ := List.getElem?_eq_some_iff.1 hc
          rw [List.drop_eq_getElem_cons h1, h2]
        obtain ⟨v, hv⟩ : ∃ v, v = u + c.toNat * 256 ^ 7 := ⟨_, rfl⟩
        have hu := hh.out.2.2
        have hvt : v = unle (l.take 8) := by rw [unle_take hc, hv, hu]
        have hor := or256 u c.toNat 7 (by rw [hu]; exact unle_tlt l 7) c.toNat_lt (by decide)
        rw [← hv] at hor
        have e1 : (c.toNat : Int) * 72057594037927936 = ((c.toNat * 256 ^ 7 : Nat) : Int) := by omega
        have e2 : IntKind.u64.wrap ((c.toNat : Int) * 72057594037927936) = (c.toNat : Int) * 72057594037927936 := IntWalk.u64_in _ (by have := c.toNat_lt; omega)
        have e0 : IntKind.u64.wrap (c.toNat : Int) = (c.toNat : Int) := IntWalk.u64_in _ (by have := c.toNat_lt; omega)
        have e3 : bits .or .u64 (u : Int) ((c.toNat : Int) * 72057594037927936) = (v : Int) := by rw [e1]; exact hor
        have HB := hid (byte_good wr lo g c (l.drop 8) (by rw [← hdr]; exact hrd.out))
        have HN : Hid (8 ≤ 8 ∧ 8 ≤ l.length ∧ v = unle (l.take 8)) := hid ⟨by decide, hl, hvt⟩
        clear hc hdr hv hu hvt hor e1 hl hh hrd
        go_wp2_with fail
        refine HB.out.mono ?_
        rintro e w2 ⟨rfl, hr2, hg2⟩
        have HR2 := hid hr2
        have HG2 := hid (hgr.out.trans hg2)
        clear hr2 hg2 HB hgr
        go_wp2
        exact ⟨⟨8, v, rfl, rfl, HR2, HG2, HN⟩, by decide⟩
      · have hdr : l.drop 7 = [] := List.drop_of_length_le (by omega)
        have HB := hid (byte_end wr lo g (by rw [← hdr]; exact hrd.out))
        have HN : Hid (l.length < 8) := hid (by omega)
        clear hdr hl hh hrd
        go_wp2_with fail
        refine HB.out.mono ?_
        rintro e w2 ⟨rfl, hr2, hg2⟩
        have HG2 := hid (hgr.out.trans hg2)
        clear hr2 hg2 HB hgr
        go_wp2
        go_ret2
        exact .inr ⟨HN.out, rfl, HG2.out⟩
    · have HU : Hid (u = unle (l.take 8) ∧ 8 ≤ l.length) := hid ⟨hh.out.2.2, hh.out.2.1⟩
      clear hh
      go_wp2
      go_ret2
      exact .inl ⟨HU.out.2, by rw [← HU.out.1]; rfl, hrd.out, hgr.out⟩
end Go.Proofs.YtfjpnkchldjjmaaGreatDoor
