/- What bitmap.Get returns. Nothing is assumed. -/
import Derived.Test.YtejmllpffocneaaBmW
namespace Go.Proofs.Ytejmllpffocneaa
open Go.RowKit

theorem bgO_of {b : List UInt8} {n : Nat} (hb : b.length = nby n) : bgO b (n : Int) = clb b n := by
  have hcl : (∀ i, i < 8 * b.length → n ≤ i → bi b i = false) ↔ clb b n = true := by
    by_cases h0 : n % 8 = 0
    · have e : clb b n = true := by unfold clb; rw [h0]; rfl
      exact ⟨fun _ => e, fun _ i h1 h2 => by rw [hb] at h1; unfold nby at h1; omega⟩
    · have hp : 0 < b.length := by rw [hb]; unfold nby; omega
      have hlt : b.length - 1 < b.length := by omega
      have e : clb b n = (b[b.length - 1].toNat / 2 ^ (n % 8) == 0) := by unfold clb; rw [List.getElem?_eq_getElem hlt]; simp [h0]
      have hbi : ∀ t, t < 8 → bi b (8 * (b.length - 1) + t) = bt b[b.length - 1].toNat t := fun t ht => by
        unfold bi
        rw [show (8 * (b.length - 1) + t) / 8 = b.length - 1 by omega, show (8 * (b.length - 1) + t) % 8 = t by omega, List.getElem?_eq_getElem hlt]
      have hx := b[b.length - 1].toNat_lt
      rw [e]
      have hl : b.length = n / 8 + 1 := by rw [hb]; unfold nby; omega
      have key : ∀ (x : Fin 256) (r : Fin 8), (∀ t : Fin 8, r.val ≤ t.val → bt x.val t.val = false) ↔ (x.val / 2 ^ r.val == 0) = true := by decide +kernel
      rw [← key ⟨_, hx⟩ ⟨n % 8, by omega⟩]
      constructor
      · intro h t ht
        have := h (8 * (b.length - 1) + t.val) (by have := t.isLt; omega) (by have : n % 8 ≤ t.val := ht; omega)
        rwa [hbi t.val t.isLt] at this
      · intro h i h1 h2
        have h3 : i = 8 * (b.length - 1) + i % 8 := by omega
        rw [h3, hbi _ (Nat.mod_lt _ (by omega))]
        exact h ⟨i % 8, Nat.mod_lt _ (by omega)⟩ (by show n % 8 ≤ i % 8; omega)
  unfold bgO
  cases hc : clb b n with
  | true => exact decide_eq_true ⟨by omega, hb, fun i h1 h2 => hcl.2 hc i h1 h2⟩
  | false => exact decide_eq_false fun h => by rw [hcl.1 fun i h1 h2 => h.2.2 i h1 h2] at hc; cases hc
theorem bgO_neg {b : List UInt8} {n : Int} (h : n < 0) : bgO b n = false := decide_eq_false fun e => by omega
theorem bgO_len {b : List UInt8} {n : Nat} (h : b.length ≠ nby n) : bgO b (n : Int) = false := decide_eq_false fun e => h (by simpa using e.2.1)
def bgX (b : List UInt8) (n : Int) : List Bool := if bgO b n = true then bgL b n.toNat else []
/-- Truths read one by one. -/
def gK (b : List UInt8) (m k : Nat) : List Bool := (List.range m).map fun i => if i < k then bi b i else false
theorem gK_len (b : List UInt8) (m k : Nat) : (gK b m k).length = m := by simp [gK]
theorem gK_zero (b : List UInt8) (m : Nat) : gK b m 0 = List.replicate m false := by
  refine List.ext_getElem (by simp [gK]) fun j h1 h2 => ?_
  simp [gK]
theorem gK_all (b : List UInt8) (m : Nat) : gK b m m = bgL b m := by
  refine List.ext_getElem (by simp [gK, bgL]) fun j h1 h2 => ?_
  rw [gK_len] at h1
  simp [gK, bgL, h1]
theorem gK_step (b : List UInt8) (m k : Nat) : gK b m (k + 1) = (gK b m k).set k (bi b k) := by
  refine List.ext_getElem (by simp [gK]) fun j h1 h2 => ?_
  rw [List.getElem_set]
  simp only [gK, List.getElem_map, List.getElem_range]
  by_cases h3 : k = j
  · subst h3; rw [if_pos rfl, if_pos (by omega)]
  · rw [if_neg h3]
    by_cases h4 : j < k
    · rw [if_pos h4, if_pos (by omega)]
    · rw [if_neg h4, if_neg (by omega)]
theorem gK_at (b : List UInt8) {m k : Nat} (hk : k < m) : (gK b m k)[k]'(by rw [gK_len]; exact hk) = false := by simp [gK]
theorem bls_set (l : List Bool) (k : Nat) (x : Bool) : (bls l).set k (.bool x) = bls (l.set k x) := by simp [bls, List.map_set]
theorem bdQ {B : Nat} {a w : World} (n : Nat) (h : Below B a w) : Below B a (w.drewN n) := ⟨h.os, h.tape, h.output, h.size, h.block⟩
theorem bls_len (l : List Bool) : (bls l).length = l.length := by simp [bls]
theorem lst_b {w : World} {lo hi n : Nat} {A : Option Addr} {l : List Bool} (h : Lst w lo hi A n (bls l)) {k : Nat} (hk : k < l.length) : ∃ g off, A = some ⟨g, off, none⟩ ∧ lo ≤ g ∧ g < hi ∧ w.cell? ⟨g, off + k, none⟩ = some (.bool l[k]) := by
  have hl := h.1
  rw [bls_len] at hl
  obtain ⟨g, off, h1, h2, h3, h4⟩ := h.at_ (k := k) (by omega)
  refine ⟨g, off, h1, h2, h3, h4.trans ?_⟩
  simp [bls]
theorem bit_and : ∀ (x : Fin 256) (r : Fin 8), (bits .and .u8 ((x.val : Int) / 2 ^ r.val) 1 == 1) = bt x.val r.val := by decide +kernel
theorem bit_at (x : UInt8) {r : Nat} (hr : r < 8) : (bits .and .u8 ((x.toNat : Int) / 2 ^ r) 1 == 1) = bt x.toNat r := bit_and ⟨x.toNat, x.toNat_lt⟩ ⟨r, hr⟩
theorem bi_of {b : List UInt8} {j : Nat} (h : j / 8 < b.length) : bi b j = bt b[j / 8].toNat (j % 8) := by unfold bi; rw [List.getElem?_eq_getElem h]
theorem g_q {j q r : Nat} (hq : q = j / 8) (hr : r = j % 8) : Int.tdiv (j : Int) 8 = (q : Int) ∧ (j : Int) / 8 = (q : Int) ∧ Int.tmod (j : Int) 8 = (r : Int) ∧ (j : Int) % 8 = (r : Int) := by
  refine ⟨?_, by omega, ?_, by omega⟩
  · rw [Int.tdiv_eq_ediv_of_nonneg (by omega)]; omega
  · rw [Int.tmod_eq_emod_of_nonneg (by omega)]; omega
def BGet (w : World) (b : List UInt8) (N : Int) (e : Ending) (w' : World) : Prop := ∃ A c, e = .returned (.tuple #[.slice A (bgX b N).length c, .bool (bgO b N)]) ∧ w'.ownsRow w.heap.size 4 1 (.slice A (bgX b N).length c) (bgX b N).length (bls (bgX b N)) ∧ Below w.heap.size w w'
theorem BGet.no {w : World} {b : List UInt8} {N : Int} (h : bgO b N = false) : BGet w b N (.returned (.tuple #[.slice none 0 0, .bool false])) w := by
  have e : bgX b N = [] := by unfold bgX; rw [h]; rfl
  refine ⟨none, 0, ?_, ?_, Below.refl _ _⟩
  · rw [e, h]; rfl
  · rw [e]; exact own_nilrow _ _ _ _
set_option maxRecDepth 100000 in
set_option maxHeartbeats 8000000 in
theorem bget_c {w : World} {n c : Nat} {A : Option Addr} {b : List UInt8} (h : Bts w 0 w.heap.size A n b) (hn : n ≤ 100000) (N : Int) (hN : -9223372036854775808 ≤ N ∧ N ≤ 9223372036854775807) :
    Calls Try.prog 20 #[.slice A n c, .int .i64 N] w (BGet w b N) := by
  have hl := h.len
  subst hl
  have HL := hid h
  have HN := hid hn
  clear h hn
  rcases Int.lt_or_le N 0 with hneg | hpos
  · have e1 : decide (N < 0) = true := decide_eq_true hneg
    have HG := hid (BGet.no (w := w) (bgO_neg (b := b) hneg))
    clear hN
    go_enter Try.func20, Try.ntmps20
    go_wp2
    go_ret2
    exact HG.out
  obtain ⟨M, rfl⟩ : ∃ M : Nat, N = (M : Int) := ⟨N.toNat, by omega⟩
  have hM : M ≤ 9223372036854775807 := by omega
  have HM := hid hM
  have e1 : decide ((M : Int) < 0) = false := by simp
  clear hN hM hpos
  by_cases hb : ¬ b.length = nby M
  · have e2 : ((b.length : Int) != ((nby M : Nat) : Int)) = true := by simp; omega
    have e3 : ¬ (b.length : Int) = ((nby M : Nat) : Int) := by omega
    have HG := hid (BGet.no (w := w) (bgO_len hb))
    clear hb
    go_enter Try.func20, Try.ntmps20
    go_wp2_with fail
    refine (bytesFor_c M HM.out _).mono ?_
    rintro e w0 ⟨rfl, rfl⟩
    go_wp2
    go_ret2
    exact HG.out
  replace hb : b.length = nby M := Classical.not_not.1 hb
  have hM8 : M ≤ 800000 := by have := HN.out; unfold nby at hb; omega
  have HM8 := hid hM8
  have e2 : ((b.length : Int) != ((nby M : Nat) : Int)) = false := by rw [hb]; simp
  have e3 : (b.length : Int) = ((nby M : Nat) : Int) := by rw [hb]
  have HG := hid (bgO_of hb)
  have HC := hid (clean_c HL.out M (by omega) hb (c := c))
  have HB := hid hb
  cases hcb : clb b M with
  | false =>
    rw [hcb] at HG HC
    clear hb hM8 hcb
    have HG2 := hid (BGet.no (w := w) HG.out)
    go_enter Try.func20, Try.ntmps20
    go_wp2_with fail
    refine (bytesFor_c M HM.out _).mono ?_
    rintro e w0 ⟨rfl, rfl⟩
    go_wp2_with fail
    refine HC.out.mono ?_
    rintro e w0 ⟨rfl, rfl⟩
    go_wp2
    go_ret2
    exact HG2.out
  | true =>
    rw [hcb] at HG HC
    clear hb hM8 hcb
    go_enter Try.func20, Try.ntmps20
    go_wp2_with fail
    refine (bytesFor_c M HM.out _).mono ?_
    rintro e w0 ⟨rfl, rfl⟩
    go_wp2_with fail
    refine HC.out.mono ?_
    rintro e w0 ⟨rfl, rfl⟩
    go_wp2_with (at_make; refine wpList_make_new _ rfl _ _ 39 rfl 4 (.bool false) 1 Try.underlying39 Try.infoB_ rfl _ _ M M rfl rfl rfl rfl (Nat.le_refl _) (by have := HM8.out; omega) (by have := HM8.out; omega) ?_)
    intro w1 hblk hgr hlt
    have hb1 : Below w.heap.size w w1 := grown_below hgr (Nat.le_refl _) (fun k h => by cases h)
    have HO : Hid (w1.ownsRow w.heap.size 4 1 (.slice (some ⟨w.heap.size, 0, none⟩) M M) M (bls (gK b M 0))) := hid (by
      have := own_zeros hblk.out (by have := HM8.out; unfold maxLen; omega)
      rwa [show zeros M (Value.bool false) = bls (gK b M 0) by rw [gK_zero]; simp [zeros, bls]] at this)
    clear hblk hgr hlt e1 e2 e3
    go_wp2_with fail
    go_loopg [27] M (fun kk iv wr => ∃ j : Nat, iv = .int .i64 (j : Int) ∧ Hid (kk = M - j) ∧ Hid (j ≤ M) ∧ Hid (Below w.heap.size w wr) ∧ Hid (wr.ownsRow w.heap.size 4 1 (.slice (some ⟨w.heap.size, 0, none⟩) M M) M (bls (gK b M j))))
    case atStart => exact ⟨0, rfl, hid rfl, hid (Nat.zero_le _), hid hb1, HO⟩
    case round =>
      obtain ⟨j, rfl, hgk, hj, hB, hO⟩ := hrel
      clear HO hb1
      rename World => wr
      rcases Nat.lt_or_ge j M with hlt | hge
      · have j1 : (0 : Int) ≤ (j : Int) := by omega
        have j2 : (j : Int) < (M : Int) := by omega
        have j3 : decide ((j : Int) < (M : Int)) = true := by simpa using hlt
        have wj : wrap64 ((j : Int) + 1) = ((j + 1 : Nat) : Int) := by have := HM8.out; unfold wrap64; omega
        have HJ := hid hlt
        have hjb : j / 8 < b.length := by rw [HB.out]; unfold nby; omega
        obtain ⟨ga, oa, rfl, _, hga, hcell⟩ := (HL.out.below hB.out (Nat.le_refl _)).at_ hjb
        have hbi := bi_of hjb
        have HS := hid (gK_step b M j)
        obtain ⟨r, hr⟩ : ∃ r, r = j % 8 := ⟨_, rfl⟩
        obtain ⟨q, hq⟩ : ∃ q, q = j / 8 := ⟨_, rfl⟩
        obtain ⟨q3, q4, q1, q2⟩ := g_q hq hr
        have k1 : (q : Int) < ((b.length : Nat) : Int) := by omega
        have k2 : (0 : Int) ≤ (q : Int) := by omega
        have k3 : (0 : Int) ≤ (r : Int) := by omega
        have k4 : decide ((r : Int) < 0) = false := by simp
        have k6 : wrap64 (q : Int) = (q : Int) := w64_nat (by have := HM8.out; omega)
        have HR8 : Hid (r < 8) := hid (by omega)
        rw [hbi] at HS
        generalize b[j / 8] = x at *
        rw [← hq] at hcell
        rw [← hr] at HS
        obtain ⟨y0, hy0⟩ : ∃ y0, wr.cell? ⟨w.heap.size, j, none⟩ = some (.bool y0) := by
          obtain ⟨g, off, hA, _, _, hc2⟩ := (Lst.own hO.out).at_ hlt
          injection hA with hA
          injection hA with h1 h2 _
          subst h1 h2
          rw [Nat.zero_add] at hc2
          exact ⟨(gK b M j)[j]'(by rw [gK_len]; exact hlt), hc2.trans (congrArg some (by simp [bls]))⟩
        have hfr : wr.frozen? ⟨w.heap.size, j, none⟩ = false := by
          obtain ⟨g, hA, _, _, hf⟩ := own_some hO.out (Nat.lt_of_le_of_lt (Nat.zero_le j) hlt)
          injection hA with hA
          injection hA with h1 _ _
          subst h1
          exact hf _
        clear hlt hbi hr hq hjb
        go_wp2_with fail
        go_roundg (M - (j + 1))
        case measure => exact meas_j hgk.out HJ.out
        case rel =>
          have ho1 := own_store (k := j) hO.out (.bool (bits .and .u8 ((x.toNat : Int) / 2 ^ r) 1 == 1))
          have hb1 : Below w.heap.size w (wr.setCell ⟨w.heap.size, j, none⟩ (.bool (bits .and .u8 ((x.toNat : Int) / 2 ^ r) 1 == 1))) := hB.out.grown (grown_setCell _ _ _ _) hB.out.size (fun k hk => by injection hk with hk; exact Nat.le_of_eq hk)
          have hs := HS.out
          rw [bls_set, bit_at x HR8.out, ← hs, ← bit_at x HR8.out] at ho1
          exact ⟨j + 1, by first | rfl | rw [wj], hid rfl, hid HJ.out, hid hb1, hid ho1⟩
      · have hjn : j = M := by have := hj.out; omega
        subst hjn
        have j2 : ¬ (j : Int) < (j : Int) := by omega
        have HB := hB.out
        have HO := hO.out
        rw [gK_all] at HO
        have HX : Hid (bgX b (j : Int) = bgL b j) := hid (by unfold bgX; rw [HG.out, if_pos rfl]; simp)
        clear hge hj hgk HL HC
        go_wp2
        go_ret2
        refine ⟨some ⟨w.heap.size, 0, none⟩, j, ?_, ?_, HB⟩
        · rw [HX.out, bgL_len, HG.out]; rfl
        · rw [HX.out, bgL_len]; exact HO
end Go.Proofs.Ytejmllpffocneaa
