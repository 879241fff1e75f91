/- What strongroomref10.Put returns. Nothing is assumed. -/
import Derived.Test.YtejmllpffocneaaBmG
namespace Go.Proofs.Ytejmllpffocneaa
open Go.RowKit

/-- The first i bits of a byte, as a number. -/
def psb (f : Nat → Bool) : Nat → Nat
  | 0 => 0
  | i + 1 => psb f i + (f i).toNat * 2 ^ i
theorem psb_8 (f : Nat → Bool) : psb f 8 = by8 f := by
  simp only [psb, by8]
  omega
theorem psb_lt (f : Nat → Bool) : ∀ i, psb f i < 2 ^ i
  | 0 => by simp [psb]
  | i + 1 => by
    have h1 := psb_lt f i
    have h2 : (f i).toNat ≤ 1 := by cases f i <;> decide
    rw [psb, Nat.pow_succ]
    have : (f i).toNat * 2 ^ i ≤ 1 * 2 ^ i := Nat.mul_le_mul_right _ h2
    omega
theorem psb_end (f : Nat → Bool) (k : Nat) (h : ∀ t, k ≤ t → f t = false) : ∀ i, k ≤ i → psb f i = psb f k
  | 0, h1 => by rw [Nat.le_zero.1 h1]
  | i + 1, h1 => by
    by_cases e : k = i + 1
    · rw [e]
    · rw [psb, psb_end f k h i (by omega), h i (by omega)]; simp
/-- Byte 0 of truths, by their first bits. -/
theorem pj_psb (l : List Bool) {k : Nat} (hk : k = min 8 l.length) : pj l 0 = UInt8.ofNat (psb (tr l) k) := by
  unfold pj
  congr 1
  rw [by8_congr (g := tr l) (fun t _ => by rw [Nat.mul_zero, Nat.zero_add]), ← psb_8]
  by_cases h8 : 8 ≤ l.length
  · rw [show k = 8 by omega]
  · exact psb_end _ _ (fun t ht => tr_out (by omega)) _ (by omega)
theorem u_of {i : Nat} (h : i ≤ 8) : 2 ^ i ≤ 256 := Nat.le_trans (Nat.pow_le_pow_right (by decide) h) (by decide)
theorem c_bound {f : Nat → Bool} {i : Nat} (h : i ≤ 8) : psb f i < 256 := Nat.lt_of_lt_of_le (psb_lt f i) (u_of h)
theorem w_small {x : Int} (h1 : 0 ≤ x) (h2 : x ≤ 1000000) : wrap64 x = x := by unfold wrap64; omega
theorem psb_yes {f : Nat → Bool} {i : Nat} (h : f i = true) : psb f (i + 1) = psb f i + 2 ^ i := by rw [psb, h]; simp
theorem psb_no {f : Nat → Bool} {i : Nat} (h : f i = false) : psb f (i + 1) = psb f i := by rw [psb, h]; simp
theorem bs_snoc {b : List UInt8} {v : Nat} (h : v < 256) : bs (b ++ [UInt8.ofNat v]) = bs b ++ [Value.int .u8 (v : Int)] := by
  rw [bs_app]
  congr 1
  show [Value.int .u8 ((UInt8.ofNat v).toNat : Int)] = _
  rw [UInt8.toNat_ofNat', Nat.mod_eq_of_lt h]
theorem lst_drop {w : World} {lo hi n g off : Nat} {l : List Bool} (h : Lst w lo hi (some ⟨g, off, none⟩) n (bls l)) (k : Nat) : Lst w lo hi (some ⟨g, off + k, none⟩) (n - k) (bls (l.drop k)) := by
  have hl := h.1
  rw [bls_len] at hl
  refine ⟨by rw [bls_len, List.length_drop, hl], fun hn => ?_⟩
  obtain ⟨g', off', e, h1, h2, hc⟩ := h.2 (by omega)
  injection e with e
  injection e with e1 e2
  subst e1; subst e2
  refine ⟨g, off + k, rfl, h1, h2, fun j u hu => ?_⟩
  have : (bls l)[k + j]? = some u := by
    have e : bls (l.drop k) = (bls l).drop k := by simp [bls, List.map_drop]
    rwa [e, List.getElem?_drop] at hu
  rw [Nat.add_assoc]
  exact hc _ u this
theorem rp_cap {p n r : Nat} (h : p ≤ n - r) (hn : n ≤ 100000) : (p + 1) * 1 ≤ 140737488355328 ∧ p + 1 ≤ maxLen := by unfold maxLen; omega
theorem rp_dec {i n : Nat} : (decide ((i : Int) < 8) = decide (i < 8)) ∧ (decide ((i : Int) < (n : Int)) = decide (i < n)) := by
  refine ⟨?_, ?_⟩ <;> simp <;> omega
set_option maxRecDepth 100000 in
set_option maxHeartbeats 16000000 in
theorem brput_c {w : World} {n c : Nat} {A : Option Addr} {l : List Bool} (h : Lst w 0 w.heap.size A n (bls l)) (hnc : n ≤ c) (hn : n ≤ 100000) :
    Calls Try.prog 24 #[.slice A n c] w (RowB w (bmP l)) := by
  have hl : l.length = n := by have := h.1; rwa [bls_len] at this
  subst hl
  have HL := hid h
  have HN := hid (And.intro hnc hn)
  clear h hnc hn
  go_enter Try.func24, Try.ntmps24
  go_wp2_with fail
  go_loopg [0, 3] l.length (fun kk sv ov wr => ∃ (A1 A2 : Option Addr) (c1 c2 : Nat) (r : List Bool) (P : List UInt8), sv = .slice A1 r.length c1 ∧ ov = .slice A2 P.length c2 ∧ Hid (kk = r.length) ∧ Hid (r.length ≤ c1 ∧ r.length ≤ l.length ∧ P.length ≤ l.length - r.length) ∧ Hid (bmP l = P ++ bmP r) ∧ Hid (Lst w 0 w.heap.size A1 r.length (bls r)) ∧ Hid (Below w.heap.size w wr) ∧ Hid (wr.ownsRow w.heap.size 5 1 (.slice A2 P.length c2) P.length (bs P)))
  case atStart => exact ⟨A, none, c, 0, l, [], rfl, rfl, hid rfl, hid ⟨HN.out.1, Nat.le_refl _, Nat.zero_le _⟩, hid rfl, HL, hid (Below.refl _ _), hid (own_nilrow _ _ _ _)⟩
  case round =>
    obtain ⟨A1, A2, c1, c2, r, P, rfl, rfl, hgk, hbd, hP, hL, hB, hO⟩ := hrel
    rename World => wr
    rcases Nat.eq_zero_or_pos r.length with h0 | hpos
    · have hr : r = [] := List.eq_nil_of_length_eq_zero h0
      subst hr
      have e1 : decide ((0 : Int) < (([] : List Bool).length : Int)) = false := by decide
      have HB := hB.out
      have HO := hO.out
      have HE : bmP l = P := by rw [hP.out, bmP_nil, List.append_nil]
      clear h0 hgk hbd hP hL
      go_wp2
      go_ret
      exact ⟨A2, c2, by rw [HE]; rfl, by rw [HE]; exact own_nc HO, by rw [HE]; exact HO, HB⟩
    · have e1 : decide ((0 : Int) < (r.length : Int)) = true := by simpa using hpos
      obtain ⟨k, hk⟩ : ∃ k, k = min 8 r.length := ⟨_, rfl⟩
      have HK : Hid (k ≤ 8 ∧ k ≤ r.length ∧ 0 < k ∧ (k = 8 ∨ (k = r.length ∧ r.length < 8))) := hid (by omega)
      have HKM := hid hk
      have hrl := HN.out
      have HBD := hbd
      obtain ⟨nr, hnr⟩ : ∃ nr, nr = r.length := ⟨_, rfl⟩
      rw [← hnr] at e1 hL hbd HK HKM hgk hpos ⊢
      have HNR := hid hnr
      have hpos2 := hid hpos
      clear hk hnr hrl hpos
      go_wp2_with fail
      go_loopg [4, 5, 6] k (fun k2 cv uv iv wx => ∃ (i s u : Nat), cv = .int .i64 (s : Int) ∧ uv = .int .i64 (u : Int) ∧ iv = .int .i64 (i : Int) ∧ Hid (k2 = k - i) ∧ Hid (i ≤ k) ∧ Hid (s = psb (tr r) i) ∧ Hid (u = 2 ^ i) ∧ wx = wr)
      case atStart => exact ⟨0, 0, 1, rfl, rfl, rfl, hid rfl, hid (Nat.zero_le _), hid rfl, hid rfl, rfl⟩
      case round =>
        obtain ⟨i, s, u, rfl, rfl, rfl, hgk2, hi, hs, hu, rfl⟩ := hrel
        rcases Nat.lt_or_ge i k with hlt | hge
        · have t1 : decide ((i : Int) < 8) = true := by have := HK.out; simp; omega
          have t2 : decide ((i : Int) < (nr : Int)) = true := by have := HK.out; simp; omega
          have t3 : (i : Int) < (nr : Int) := by have := HK.out; omega
          have t4 : (0 : Int) ≤ (i : Int) := by omega
          have wi : wrap64 ((i : Int) + 1) = ((i + 1 : Nat) : Int) := by have := HK.out; unfold wrap64; omega
          have hir : i < r.length := by rw [← HNR.out]; have := HK.out; omega
          obtain ⟨g1, o1, rfl, _, hg1, hcell⟩ := lst_b (hL.out.below hB.out (Nat.le_refl _)) hir
          have htr := tr_at hir
          rw [← htr] at hcell
          have hu8 : u ≤ 256 := by rw [hu.out]; exact u_of (by have := HK.out; omega)
          have hs8 : s < 256 := by rw [hs.out]; exact c_bound (by have := HK.out; omega)
          have wu : wrap64 ((u : Int) * 2) = (u : Int) * 2 := w_small (by omega) (by omega)
          have ws : wrap64 ((s : Int) + (u : Int)) = (s : Int) + (u : Int) := w_small (by omega) (by omega)
          have HU2 : Hid (2 ^ (i + 1) = u * 2) := hid (by rw [Nat.pow_succ, hu.out])
          have HI := hid hlt
          have HY := hid (@psb_yes (tr r) i)
          have HNo := hid (@psb_no (tr r) i)
          obtain ⟨x, hx⟩ : ∃ x, x = tr r i := ⟨_, rfl⟩
          rw [← hx] at hcell
          clear hlt hir htr hu8 hs8
          cases x with
          | true =>
            have HS2 : Hid (psb (tr r) (i + 1) = s + u) := hid (by rw [HY.out hx.symm, ← hs.out, ← hu.out])
            clear hx HY HNo
            go_wp2_with fail
            go_roundg (k - (i + 1))
            case measure => exact meas_j hgk2.out HI.out
            case rel => exact ⟨i + 1, s + u, u * 2, by first | rfl | rw [ws]; rfl, by first | rfl | rw [wu]; rfl, by first | rfl | rw [wi], hid rfl, hid HI.out, hid HS2.out.symm, hid HU2.out.symm, rfl⟩
          | false =>
            have HS2 : Hid (psb (tr r) (i + 1) = s) := hid (by rw [HNo.out hx.symm, ← hs.out])
            clear hx HY HNo ws
            go_wp2_with fail
            go_roundg (k - (i + 1))
            case measure => exact meas_j hgk2.out HI.out
            case rel => exact ⟨i + 1, s, u * 2, rfl, by first | rfl | rw [wu]; rfl, by first | rfl | rw [wi], hid rfl, hid HI.out, hid HS2.out.symm, hid HU2.out.symm, rfl⟩
        · have hik : i = k := by have := hi.out; omega
          subst hik
          have HPJ : Hid (pj r 0 = UInt8.ofNat s) := hid (by rw [hs.out]; exact pj_psb r (by rw [← HNR.out]; exact HKM.out))
          have hs8 : s < 256 := by rw [hs.out]; exact c_bound HK.out.1
          have HS8 := hid hs8
          have HBP : Hid (bmP r = UInt8.ofNat s :: bmP (r.drop 8)) := hid (by rw [bmP_cons (List.ne_nil_of_length_pos (by rw [← HNR.out]; exact hpos2.out)), HPJ.out])
          have m1 : (s : Int) % 256 = (s : Int) := by omega
          have m2 : IntKind.u8.wrap (s : Int) = (s : Int) := IntWalk.u8_in _ (by omega)
          clear hge hi hgk2 hs8 hs hu HKM
          rcases HK.out.2.2.2 with h8 | hn8
          · subst h8
            have n1 : min (8 : Int) (nr : Int) = 8 := by have := HK.out; omega
            have n2 : (8 : Int) ≤ (nr : Int) := by have := HK.out; omega
            have hsz := hB.out.size
            obtain ⟨g1, o1, rfl, _, _, _⟩ := hL.out.at_ hpos2.out
            go_wp2_with (at_builtin; refine wpList_app1 _ rfl _ _ 24 _ rfl w.heap.size 5 (.int .u8 0) 1 Try.underlying24 Try.info8_ rfl _ _ _ _ rfl hO.out _ rfl rfl (rp_cap HBD.out.2.2 HN.out.2).1 (rp_cap HBD.out.2.2 HN.out.2).2 hsz ?_)
            intro A3 c3 w3 hc3 ho3 _ hb3 _
            have HO3 : Hid (w3.ownsRow w.heap.size 5 1 (.slice A3 (P.length + 1) c3) (P.length + 1) (bs (P ++ [UInt8.ofNat s]))) := hid (by rw [bs_snoc HS8.out]; first | exact ho3 | (rw [m1] at ho3; exact ho3))
            have HB3 := hid (hB.out.trans hb3)
            have HD : Hid ((r.drop 8).length = nr - 8 ∧ r.drop 8 = r.drop 8) := hid ⟨by rw [List.length_drop, HNR.out], rfl⟩
            have HPP : Hid (bmP l = (P ++ [UInt8.ofNat s]) ++ bmP (r.drop 8)) := hid (by rw [hP.out, HBP.out, List.append_assoc]; rfl)
            have HPL : Hid ((P ++ [UInt8.ofNat s]).length = P.length + 1) := hid (by simp)
            have HBD2 : Hid ((r.drop 8).length ≤ l.length ∧ (P ++ [UInt8.ofNat s]).length ≤ l.length - (r.drop 8).length ∧ (r.drop 8).length < nr) := hid (by rw [HPL.out, HD.out.1]; have := HBD.out; have := HK.out; have := HNR.out; omega)
            have HMS : Hid (∀ g, g = nr → (r.drop 8).length < g) := hid (fun g hg => by rw [hg]; exact HBD2.out.2.2)
            clear ho3 hb3 hsz
            by_cases hcap : c1 = 8
            · subst hcap
              have HLD : Hid (Lst w 0 w.heap.size (some ⟨g1, o1, none⟩) (r.drop 8).length (bls (r.drop 8))) := hid (by
                have h0 : (r.drop 8).length = 0 := by rw [HD.out.1]; have := HBD.out; have := HNR.out; omega
                have h1 : r.drop 8 = [] := List.eq_nil_of_length_eq_zero h0
                rw [h1]
                exact ⟨rfl, fun h => absurd h (by decide)⟩)
              go_wp2_with fail
              go_roundg ((r.drop 8).length)
              case measure => exact HMS.out _ hgk.out
              case rel => exact ⟨_, A3, 0, c3, r.drop 8, P ++ [UInt8.ofNat s], by first | (rw [HD.out.1]; done) | rw [HD.out.1, Nat.sub_self], by rw [HPL.out], hid rfl, hid ⟨by rw [HD.out.1]; have := HBD.out; have := HNR.out; omega, HBD2.out.1, HBD2.out.2.1⟩, HPP, HLD, HB3, by rw [HPL.out]; exact HO3⟩
            · have HLD : Hid (Lst w 0 w.heap.size (some ⟨g1, o1 + 8, none⟩) (r.drop 8).length (bls (r.drop 8))) := hid (by rw [HD.out.1, HD.out.2]; exact lst_drop hL.out 8)
              go_wp2_with fail
              go_roundg ((r.drop 8).length)
              case measure => exact HMS.out _ hgk.out
              case rel => exact ⟨_, A3, c1 - 8, c3, r.drop 8, P ++ [UInt8.ofNat s], by first | (rw [HD.out.1]; done) | rw [HD.out.1, Nat.sub_self], by rw [HPL.out], hid rfl, hid ⟨by rw [HD.out.1]; have := HBD.out; have := HNR.out; omega, HBD2.out.1, HBD2.out.2.1⟩, HPP, HLD, HB3, by rw [HPL.out]; exact HO3⟩
          · obtain ⟨rfl, hs8⟩ := hn8
            have n1 : min (8 : Int) (i : Int) = (i : Int) := by omega
            have n2 : ¬ (8 : Int) ≤ (i : Int) := by omega
            have t1 : decide ((i : Int) < 8) = true := by simp; omega
            have t2 : decide ((i : Int) < (i : Int)) = false := by simp
            have hsz := hB.out.size
            obtain ⟨g1, o1, rfl, _, _, _⟩ := hL.out.at_ hpos2.out
            go_wp2_with (at_builtin; refine wpList_app1 _ rfl _ _ 24 _ rfl w.heap.size 5 (.int .u8 0) 1 Try.underlying24 Try.info8_ rfl _ _ _ _ rfl hO.out _ rfl rfl (rp_cap HBD.out.2.2 HN.out.2).1 (rp_cap HBD.out.2.2 HN.out.2).2 hsz ?_)
            intro A3 c3 w3 hc3 ho3 _ hb3 _
            have HO3 : Hid (w3.ownsRow w.heap.size 5 1 (.slice A3 (P.length + 1) c3) (P.length + 1) (bs (P ++ [UInt8.ofNat s]))) := hid (by rw [bs_snoc HS8.out]; first | exact ho3 | (rw [m1] at ho3; exact ho3))
            have HB3 := hid (hB.out.trans hb3)
            have HD : Hid ((r.drop 8).length = i - i ∧ r.drop 8 = r.drop i) := hid ⟨by rw [List.length_drop, ← HNR.out]; omega, by rw [List.drop_eq_nil_of_le (by rw [← HNR.out]; omega), List.drop_eq_nil_of_le (by rw [← HNR.out]; exact Nat.le_refl _)]⟩
            have HPP : Hid (bmP l = (P ++ [UInt8.ofNat s]) ++ bmP (r.drop 8)) := hid (by rw [hP.out, HBP.out, List.append_assoc]; rfl)
            have HPL : Hid ((P ++ [UInt8.ofNat s]).length = P.length + 1) := hid (by simp)
            have HBD2 : Hid ((r.drop 8).length ≤ l.length ∧ (P ++ [UInt8.ofNat s]).length ≤ l.length - (r.drop 8).length ∧ (r.drop 8).length < i) := hid (by rw [HPL.out, HD.out.1]; have := HBD.out; have := HK.out; have := HNR.out; omega)
            have HMS : Hid (∀ g, g = i → (r.drop 8).length < g) := hid (fun g hg => by rw [hg]; exact HBD2.out.2.2)
            clear ho3 hb3 hsz
            by_cases hcap : c1 = i
            · subst hcap
              have HLD : Hid (Lst w 0 w.heap.size (some ⟨g1, o1, none⟩) (r.drop 8).length (bls (r.drop 8))) := hid (by
                have h0 : (r.drop 8).length = 0 := by rw [HD.out.1]; have := HBD.out; have := HNR.out; omega
                have h1 : r.drop 8 = [] := List.eq_nil_of_length_eq_zero h0
                rw [h1]
                exact ⟨rfl, fun h => absurd h (by decide)⟩)
              go_wp2_with fail
              go_roundg ((r.drop 8).length)
              case measure => exact HMS.out _ hgk.out
              case rel => exact ⟨_, A3, 0, c3, r.drop 8, P ++ [UInt8.ofNat s], by first | (rw [HD.out.1]; done) | rw [HD.out.1, Nat.sub_self], by rw [HPL.out], hid rfl, hid ⟨by rw [HD.out.1]; have := HBD.out; have := HNR.out; omega, HBD2.out.1, HBD2.out.2.1⟩, HPP, HLD, HB3, by rw [HPL.out]; exact HO3⟩
            · have HLD : Hid (Lst w 0 w.heap.size (some ⟨g1, o1 + i, none⟩) (r.drop 8).length (bls (r.drop 8))) := hid (by rw [HD.out.1, HD.out.2]; exact lst_drop hL.out i)
              go_wp2_with fail
              go_roundg ((r.drop 8).length)
              case measure => exact HMS.out _ hgk.out
              case rel => exact ⟨_, A3, c1 - i, c3, r.drop 8, P ++ [UInt8.ofNat s], by first | (rw [HD.out.1]; done) | rw [HD.out.1, Nat.sub_self], by rw [HPL.out], hid rfl, hid ⟨by rw [HD.out.1]; have := HBD.out; have := HNR.out; omega, HBD2.out.1, HBD2.out.2.1⟩, HPP, HLD, HB3, by rw [HPL.out]; exact HO3⟩
end Go.Proofs.Ytejmllpffocneaa
