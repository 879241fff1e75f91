/- What the document's own Parse of package value returns: the value whose text it is. -/
import Derived.Test.YtomgpkklbhdgiaaGreatDoorVlNum
import Derived.Test.YtomgpkklbhdgiaaGreatDoorVlPa
import Derived.Test.YtomgpkklbhdgiaaGreatDoorFlR4
namespace Go.Proofs.YtomgpkklbhdgiaaGreatDoor
open Go.RowKit

theorem vp_float {l : List UInt8} {u : Nat} (h : fParse l = some u) : vP l = some (4, 0, [], u) := by
  obtain ⟨h1, h2, h3⟩ := fParse_some h
  have := vP_of (u := (4, 0, [], u)) (vRight_float h2) h3 (by show (_ : Int) ≤ 0; decide) (by show (0 : Int) ≤ _; decide)
  rw [← h1]
  exact this
theorem vp_int {l : List UInt8} {n : Int} (h1 : -9223372036854775808 ≤ n) (h2 : n ≤ 9223372036854775807) (h : l = digI n) : vP l = some (1, n, [], 0) := by
  have := vP_of (u := (1, n, [], 0)) (vRight_int n) (by show (0 : Nat) < _; decide) h1 h2
  rw [h]
  exact this
theorem vp_bytes {m s : List UInt8} (hs : s.length ≤ 64) (h : hex2 s = m) : vP (120 :: m) = some (3, 0, s, 0) := by
  have := vP_of (u := (3, 0, s, 0)) (vRight_bytes hs) (by show (0 : Nat) < _; decide) (by show (_ : Int) ≤ 0; decide) (by show (0 : Int) ≤ _; decide)
  rw [← h]
  exact this
/-- No word, no float, no int: bytes, or nothing. -/
theorem vp_rest {l : List UInt8} (h1 : l ≠ tNull) (h2 : l ≠ tFalse) (h3 : l ≠ tTrue) (hf : fParse l = none) (hi : ∀ m : Int, -9223372036854775808 ≤ m → m ≤ 9223372036854775807 → l ≠ digI m) (hb : ∀ s : List UInt8, s.length ≤ 64 → l ≠ 120 :: hex2 s) : vP l = none := by
  cases hp : vP l with
  | none => rfl
  | some u =>
    exfalso
    obtain ⟨hr, he, hfu, n1, n2⟩ := vP_some hp
    rcases vRight_cases hr with rfl | ⟨n, rfl⟩ | rfl | rfl | ⟨s, hs, rfl⟩ | ⟨f, hc, rfl⟩
    · exact h1 he.symm
    · exact hi n n1 n2 he.symm
    · exact h2 he.symm
    · exact h3 he.symm
    · exact hb s hs he.symm
    · exact fParse_none hf (v := f) hfu he
theorem by_form {l s : List UInt8} (h : l = 120 :: hex2 s) : l ≠ [] ∧ l.head? = some 120 ∧ l.length = 1 + 2 * s.length := by
  subst h
  refine ⟨by simp, rfl, ?_⟩
  simp [hex2_len]
  omega

def PMid (m : List UInt8) (j : Nat) (z : Int) (q : Nat) (cc kz : Int) : Prop :=
  kz = z + (q : Int) ∧ ((q = 0 ∧ cc = 0) ∨ (q = 1 ∧ ∃ x : Nat, x < 16 ∧ cc = (x : Int) ∧ m[2 * j]? = some (hexd x)) ∨ (q = 2 ∧ ∃ x y : Nat, x < 16 ∧ y < 16 ∧ cc = 16 * (x : Int) + (y : Int) ∧ m[2 * j]? = some (hexd x) ∧ m[2 * j + 1]? = some (hexd y)))
theorem pr_even {L : Nat} (h : L % 2 = 0) : ((L : Int) % 2 == 0) = true ∧ (Int.tmod (L : Int) 2 == 0) = true := by
  rw [Int.tmod_eq_emod_of_nonneg (by omega)]
  have e : (L : Int) % 2 = 0 := by omega
  rw [e]; exact ⟨rfl, rfl⟩
theorem pr_odd {L : Nat} (h : ¬ L % 2 = 0) : ((L : Int) % 2 == 0) = false ∧ (Int.tmod (L : Int) 2 == 0) = false := by
  rw [Int.tmod_eq_emod_of_nonneg (by omega)]
  have e : (L : Int) % 2 = 1 := by omega
  rw [e]; exact ⟨rfl, rfl⟩
theorem pr_lt {z : Int} {j M L : Nat} (hz : z = 2 * (j : Int) + 1) (hj : j < M) (hL : L = 2 * M + 1) : decide (z < (L : Int)) = true := by simp; omega
theorem pr_ge {z : Int} {j M L : Nat} (hz : z = 2 * (j : Int) + 1) (hj : ¬ j < M) (hj2 : j ≤ M) (hL : L = 2 * M + 1) : decide (z < (L : Int)) = false := by simp; omega
theorem pr_z {z : Int} {j M : Nat} (hz : z = 2 * (j : Int) + 1) (hj : j < M) (hM : M ≤ 64) : wrap64 (z + 2) = z + 2 := by unfold wrap64; omega
theorem pr_u8 {v x y : Nat} (hv : v = 16 * x + y) (h1 : x < 16) (h2 : y < 16) : IntKind.u8.wrap (v : Int) = (v : Int) := by rw [IntKind.wrap_u8]; omega
theorem pr_m {z : Int} {j M L : Nat} (hz : z = 2 * (j : Int) + 1) (hj : j < M) (hL : L = 2 * M + 1) : z + 2 = 2 * ((j + 1 : Nat) : Int) + 1 ∧ L - (intOf (.int .i64 (z + 2))).toNat < L - (intOf (.int .i64 z)).toNat := by
  refine ⟨by omega, ?_⟩
  simp only [intOf]
  omega
theorem pr_ch {m : List UInt8} {j q M : Nat} (hj : j < M) (hq : q < 2) (hM : m.length = 2 * M) : ∃ ch, m[2 * j + q]? = some ch := ⟨_, List.getElem?_eq_getElem (by omega)⟩
theorem pr_k {z kz : Int} {j q M : Nat} (hz : z = 2 * (j : Int) + 1) (hk : kz = z + (q : Int)) (hq : q < 2) (hj : j < M) (hM : M ≤ 64) : decide (kz < z + 2) = true ∧ kz = ((2 * j + q + 1 : Nat) : Int) ∧ (wrap64 (kz + 1) = kz + 1 ∧ (z + 2 - intOf (.int .i64 (kz + 1))).toNat < (z + 2 - intOf (.int .i64 kz)).toNat) := by
  refine ⟨by simp; omega, by omega, by unfold wrap64; omega, ?_⟩
  simp only [intOf]
  omega
theorem pr_d {d : Nat} (h : d < 16) : wrap64 ((d : Int) + 1) = (d : Int) + 1 ∧ (d : Int) + 1 = ((d + 1 : Nat) : Int) ∧ 16 - (intOf (.int .i64 ((d + 1 : Nat) : Int))).toNat < 16 - (intOf (.int .i64 (d : Int))).toNat := by
  refine ⟨by unfold wrap64; omega, by omega, ?_⟩
  simp only [intOf]
  omega
theorem pr_next {m : List UInt8} {j q d : Nat} {z cc kz : Int} {ch : UInt8} (hm : PMid m j z q cc kz) (hch : m[2 * j + q]? = some ch) (hq : q < 2) (he : hexd d = ch) (hd : d < 16) (hk : wrap64 (kz + 1) = kz + 1 ∧ (z + 2 - intOf (.int .i64 (kz + 1))).toNat < (z + 2 - intOf (.int .i64 kz)).toNat) :
    wrap64 (16 * cc + (d : Int)) = 16 * cc + (d : Int) ∧ wrap64 (kz + 1) = kz + 1 ∧ wrap64 (16 * cc) = 16 * cc ∧ (PMid m j z (q + 1) (16 * cc + (d : Int)) (kz + 1) ∧ (z + 2 - intOf (.int .i64 (kz + 1))).toNat < (z + 2 - intOf (.int .i64 kz)).toNat) := by
  obtain ⟨h1, h2⟩ := hm
  subst he
  rcases h2 with ⟨rfl, rfl⟩ | ⟨rfl, x, hx, rfl, hg⟩ | ⟨rfl, _⟩
  · refine ⟨by unfold wrap64; omega, hk.1, by unfold wrap64; omega, ⟨by omega, .inr (.inl ⟨rfl, d, hd, by omega, hch⟩)⟩, hk.2⟩
  · refine ⟨by unfold wrap64; omega, hk.1, by unfold wrap64; omega, ⟨by omega, .inr (.inr ⟨rfl, x, d, hx, hd, rfl, hg, hch⟩)⟩, hk.2⟩
  · omega
theorem pr_two {m : List UInt8} {j q : Nat} {z cc kz : Int} (hm : PMid m j z q cc kz) (hq : ¬ q < 2) : ∃ x y : Nat, x < 16 ∧ y < 16 ∧ cc = 16 * (x : Int) + (y : Int) ∧ m[2 * j]? = some (hexd x) ∧ m[2 * j + 1]? = some (hexd y) ∧ decide (kz < z + 2) = false := by
  obtain ⟨h1, h2⟩ := hm
  rcases h2 with ⟨rfl, _⟩ | ⟨rfl, _⟩ | ⟨rfl, x, y, hx, hy, hc, g1, g2⟩
  · omega
  · omega
  · exact ⟨x, y, hx, hy, hc, g1, g2, by simp; omega⟩

set_option maxRecDepth 20000 in
set_option maxHeartbeats 8000000 in
theorem rparse3_c (l : List UInt8) (hlim : l.length ≤ 1000) (w : World) :
    Calls Tryz.prog 21 #[.string (str l)] w fun e w' => e = .returned (.tuple #[(.agg #[.int .i64 (vk ((vP l).getD vNull)), .int .i64 (vn ((vP l).getD vNull)), .string (str (vs ((vP l).getD vNull))), .int .u64 ((vf ((vP l).getD vNull) : Nat) : Int)]), .bool (vP l).isSome]) ∧ Below w.heap.size w w' := by
  have HLIM := hid hlim
  obtain ⟨r, hr⟩ : ∃ r, r = vP l := ⟨_, rfl⟩
  rw [← hr]
  have HP := hid hr
  clear hr hlim
  have hz : (str l).size = l.length := str_size l
  have g1 : ∀ t : List UInt8, ((str l).toList == t) = decide (l = t) := fun t => by rw [str_list, Bool.eq_iff_iff]; simp
  by_cases h1 : l = tNull
  · have q1 : decide (l = [110, 117, 108, 108]) = true := decide_eq_true (show l = [110, 117, 108, 108] from h1)
    have HR : Hid (r = some (0, 0, [], 0)) := hid (by rw [HP.out, h1]; exact vP_of (u := (0, 0, [], 0)) (by decide) (by decide) (by decide) (by decide))
    have q2 : decide (l = [102, 97, 108, 115, 101]) = false := decide_eq_false (fun e => absurd (h1.symm.trans e) (by decide))
    have q3 : decide (l = [116, 114, 117, 101]) = false := decide_eq_false (fun e => absurd (h1.symm.trans e) (by decide))
    clear h1
    go_enter Tryz.func21, Tryz.ntmps21
    go_wp2
    refine bodyPost_ret (v := .tuple #[(.agg #[.int .i64 (0), .int .i64 (0), .string (str ([])), .int .u64 ((0 : Nat) : Int)]), .bool true]) (by simp [results, Tryz.results21, go_sem, str_e]) rfl ?_
    exact ⟨by rw [HR.out]; rfl, bel2 _ _ _⟩
  have q1 : decide (l = [110, 117, 108, 108]) = false := decide_eq_false (show ¬ l = [110, 117, 108, 108] from h1)
  by_cases h2 : l = tFalse
  · have q2 : decide (l = [102, 97, 108, 115, 101]) = true := decide_eq_true (show l = [102, 97, 108, 115, 101] from h2)
    have HR : Hid (r = some (2, 0, [], 0)) := hid (by rw [HP.out, h2]; exact vP_of (u := (2, 0, [], 0)) (by decide) (by decide) (by decide) (by decide))
    have q3 : decide (l = [116, 114, 117, 101]) = false := decide_eq_false (fun e => absurd (h2.symm.trans e) (by decide))
    clear h1 h2
    go_enter Tryz.func21, Tryz.ntmps21
    go_wp2
    refine bodyPost_ret (v := .tuple #[(.agg #[.int .i64 (2), .int .i64 (0), .string (str ([])), .int .u64 ((0 : Nat) : Int)]), .bool true]) (by simp [results, Tryz.results21, go_sem, str_e]) rfl ?_
    exact ⟨by rw [HR.out]; rfl, bel2 _ _ _⟩
  have q2 : decide (l = [102, 97, 108, 115, 101]) = false := decide_eq_false (show ¬ l = [102, 97, 108, 115, 101] from h2)
  by_cases h3 : l = tTrue
  · have q3 : decide (l = [116, 114, 117, 101]) = true := decide_eq_true (show l = [116, 114, 117, 101] from h3)
    have HR : Hid (r = some (2, 1, [], 0)) := hid (by rw [HP.out, h3]; exact vP_of (u := (2, 1, [], 0)) (by decide) (by decide) (by decide) (by decide))
    clear h1 h2 h3
    go_enter Tryz.func21, Tryz.ntmps21
    go_wp2
    refine bodyPost_ret (v := .tuple #[(.agg #[.int .i64 (2), .int .i64 (1), .string (str ([])), .int .u64 ((0 : Nat) : Int)]), .bool true]) (by simp [results, Tryz.results21, go_sem, str_e]) rfl ?_
    exact ⟨by rw [HR.out]; rfl, bel2 _ _ _⟩
  have q3 : decide (l = [116, 114, 117, 101]) = false := decide_eq_false (show ¬ l = [116, 114, 117, 101] from h3)
  have HNW := hid (And.intro h1 (And.intro h2 h3))
  clear h1 h2 h3
  have HRP := hid (fun wx => rParse_c l (Nat.le_trans HLIM.out (by decide)) wx)
  have hd : l.head? = some 45 ∨ l.head? ≠ some 45 := by
    by_cases h : l.head? = some 45
    · exact .inl h
    · exact .inr h
  have HNM : Hid (∀ wx, Calls Tryz.prog 57 #[.string (str l)] wx (NumP l wx)) := hid (fun wx => hd.elim (fun h => numberN_c l h wx) (fun h => numberP_c l h wx))
  clear hd
  go_enter Tryz.func21, Tryz.ntmps21
  go_wp2_with fail
  refine (HRP.out _).mono ?_
  rintro e w2 ⟨hb2, xf, hef, hfx⟩
  subst hef
  have B2 := (Blk.new w 25 _).bel hb2 (by simp)
  have hbel2 := (bel1 w _).trans (hb2.mono (by simp))
  clear hb2 HRP
  cases hf : fParse l with
  | some u =>
    have HR : Hid (r = some (4, 0, [], u)) := hid (by rw [HP.out]; exact vp_float hf)
    have hxu := hfx u hf
    clear hf hfx HP
    subst hxu
    obtain ⟨p0, p1, p2, p3, pf⟩ := Blk.v4 B2
    clear B2 HNM
    go_wp2
    refine bodyPost_ret (v := .tuple #[(.agg #[.int .i64 (4), .int .i64 (0), .string (str ([])), .int .u64 ((u : Nat) : Int)]), .bool true]) (by simp [results, Tryz.results21, go_sem, p0, p1, p2, p3, str_e]) rfl ?_
    exact ⟨by rw [HR.out]; rfl, bel4 hbel2 (Nat.le_refl _) _ _ _ _⟩
  | none =>
    have HF := hid hf
    clear hf hfx
    go_wp2_with fail
    refine (HNM.out _).mono ?_
    rintro e w3 ⟨n, ok, rfl, hb3, n1, n2, hok, hall⟩
    have B3 := B2.bel hb3 B2.lt
    have hbel3 := hbel2.trans (hb3.mono hbel2.size)
    clear B2 hbel2 hb3 HNM
    obtain ⟨p0, p1, p2, p3, pf⟩ := Blk.v4 B3
    cases ok
    · have HI : Hid (∀ m : Int, -9223372036854775808 ≤ m → m ≤ 9223372036854775807 → l ≠ digI m) := hid (fun m m1 m2 e => by cases (hall m m1 m2 e).1)
      clear hok hall n1 n2
      have HREST : Hid ((∀ s : List UInt8, s.length ≤ 64 → l ≠ 120 :: hex2 s) → r = none) := hid (fun hb => by rw [HP.out]; exact vp_rest HNW.out.1 HNW.out.2.1 HNW.out.2.2 HF.out HI.out hb)
      by_cases h0 : l = []
      · have d0 : decide (l = []) = true := by simpa using h0
        have HR := hid (HREST.out (fun s _ e => (by_form e).1 h0))
        clear h0 B3
        go_wp2
        refine bodyPost_ret (v := .tuple #[(.agg #[.int .i64 (0), .int .i64 (0), .string (str ([])), .int .u64 ((0 : Nat) : Int)]), .bool false]) (by simp [results, Tryz.results21, go_sem, p0, p1, p2, p3, str_e]) rfl ?_
        exact ⟨by rw [HR.out]; rfl, bel4 hbel3 (Nat.le_refl _) _ _ _ _⟩
      have d0 : decide (l = []) = false := by simpa using h0
      obtain ⟨c0, m, rfl⟩ : ∃ c0 m, l = c0 :: m := by cases l with
        | nil => exact absurd rfl h0
        | cons c q => exact ⟨c, q, rfl⟩
      have hi0 : ∀ wx, (Instr.index 9 (.string (str (c0 :: m))) (.int .i64 0)).run Tryz.prog wx = .ok (.int .u8 (c0.toNat : Int)) wx := fun wx => vstr_at (c0 :: m) 0 c0 rfl .i64 wx
      by_cases hx : c0 = 120
      case neg =>
        have d1 : ((c0.toNat : Int) != 120) = true := by
          simp
          intro e
          exact hx (UInt8.toNat_inj.1 (by show c0.toNat = 120; omega))
        have HR := hid (HREST.out (fun s _ e => hx (by have := (by_form e).2.1; simpa using this)))
        clear h0 B3 hx
        go_wp2
        refine bodyPost_ret (v := .tuple #[(.agg #[.int .i64 (0), .int .i64 (0), .string (str ([])), .int .u64 ((0 : Nat) : Int)]), .bool false]) (by simp [results, Tryz.results21, go_sem, p0, p1, p2, p3, str_e]) rfl ?_
        exact ⟨by rw [HR.out]; rfl, bel4 hbel3 (Nat.le_refl _) _ _ _ _⟩
      subst hx
      have d1 : (((120 : UInt8).toNat : Int) != 120) = false := by decide
      generalize hl : (120 :: m : List UInt8) = l at *
      have HLM := hid hl
      clear hl h0
      by_cases hev : l.length % 2 = 0
      · obtain ⟨f1, f2⟩ := pr_even hev
        have HR := hid (HREST.out (fun s _ e => by have := (by_form e).2.2; omega))
        clear hev B3
        go_wp2
        refine bodyPost_ret (v := .tuple #[(.agg #[.int .i64 (0), .int .i64 (0), .string (str ([])), .int .u64 ((0 : Nat) : Int)]), .bool false]) (by simp [results, Tryz.results21, go_sem, p0, p1, p2, p3, str_e]) rfl ?_
        exact ⟨by rw [HR.out]; rfl, bel4 hbel3 (Nat.le_refl _) _ _ _ _⟩
      obtain ⟨f1, f2⟩ := pr_odd hev
      by_cases h129 : 129 < l.length
      · have d2 : decide (129 < (l.length : Int)) = true := by simp; omega
        have d2' : decide (129 < l.length) = true := by simpa using h129
        have HR := hid (HREST.out (fun s hs e => by have := (by_form e).2.2; omega))
        clear hev B3 h129
        go_wp2
        refine bodyPost_ret (v := .tuple #[(.agg #[.int .i64 (0), .int .i64 (0), .string (str ([])), .int .u64 ((0 : Nat) : Int)]), .bool false]) (by simp [results, Tryz.results21, go_sem, p0, p1, p2, p3, str_e]) rfl ?_
        exact ⟨by rw [HR.out]; rfl, bel4 hbel3 (Nat.le_refl _) _ _ _ _⟩
      have d2 : decide (129 < (l.length : Int)) = false := by simp; omega
      have d2' : decide (129 < l.length) = false := by simpa using h129
      obtain ⟨M, hM⟩ : ∃ M, m.length = 2 * M ∧ M ≤ 64 ∧ l.length = 2 * M + 1 := ⟨m.length / 2, by rw [← HLM.out] at hev h129 ⊢; simp at hev h129 ⊢; omega⟩
      have HM := hid hM
      have HGET : Hid (∀ (i : Nat) (c : UInt8), m[i]? = some c → l[i + 1]? = some c) := hid (fun i c h => by rw [← HLM.out]; simpa using h)
      clear hev h129 hM
      go_wp2_with fail
      go_loopw [8, 9] (fun bv iv wr => ∃ (j c : Nat) (A : Option Addr) (b : List UInt8) (z : Int), bv = .slice A j c ∧ iv = .int .i64 z ∧ Below w3.heap.size w3 wr ∧ Hid (wr.ownsRow w3.heap.size 5 1 (.slice A j c) j (bs b)) ∧ Hid (z = 2 * (j : Int) + 1 ∧ j ≤ M ∧ hex2 b = m.take (2 * j) ∧ b.length = j)) (fun _ iv _ => l.length - (intOf iv).toNat)
      case atStart => exact ⟨0, 0, none, [], 1, rfl, rfl, Below.refl _ _, hid ⟨rfl, .inl ⟨rfl, rfl⟩⟩, hid ⟨rfl, Nat.zero_le _, by simp [hex2], rfl⟩⟩
      case round =>
        obtain ⟨j, c, A, b, z, rfl, rfl, hbw, hown, hh⟩ := hrel
        by_cases hj : j < M
        · have dz := pr_lt (L := l.length) hh.out.1 hj HM.out.2.2
          have HJ := hid hj
          clear p0 p1 p2 p3 pf hj
          go_wp2_with fail
          go_loopw [10, 11] (fun cv kv wq => ∃ (q : Nat) (cc kz : Int), cv = .int .i64 cc ∧ kv = .int .i64 kz ∧ Below w3.heap.size w3 wq ∧ Hid (wq.ownsRow w3.heap.size 5 1 (.slice A j c) j (bs b)) ∧ Hid (PMid m j z q cc kz)) (fun _ kv _ => (z + 2 - intOf kv).toNat)
          case atStart => exact ⟨0, 0, z, rfl, rfl, hbw, hown, hid ⟨by omega, .inl ⟨rfl, rfl⟩⟩⟩
          case round =>
            obtain ⟨q, cc, kz, rfl, rfl, hbq, hownq, hmid⟩ := hrel
            by_cases hq : q < 2
            · obtain ⟨ch, hch⟩ := pr_ch (m := m) HJ.out hq HM.out.1
              obtain ⟨dk, kz2, k1⟩ := pr_k hh.out.1 hmid.out.1 hq HJ.out HM.out.2.1
              have hix : ∀ wx, (Instr.index 9 (.string (str l)) (.int .i64 kz)).run Tryz.prog wx = .ok (.int .u8 (ch.toNat : Int)) wx := fun wx => by rw [kz2]; exact vstr_at l (2 * j + q + 1) ch (HGET.out _ _ hch) .i64 wx
              have HCH := hid (And.intro hch hq)
              have wz := pr_z hh.out.1 HJ.out HM.out.2.1
              have HK1 := hid k1
              clear hch hq kz2 k1
              go_wp2_with fail
              go_loopw [12] (fun dv wp => ∃ (d : Nat), dv = .int .i64 (d : Int) ∧ Below w3.heap.size w3 wp ∧ Hid (wp.ownsRow w3.heap.size 5 1 (.slice A j c) j (bs b)) ∧ Hid (d ≤ 16 ∧ ∀ e, e < d → hexd e ≠ ch)) (fun dv _ => 16 - (intOf dv).toNat)
              case atStart => exact ⟨0, rfl, hbq, hownq, hid ⟨by omega, fun e he => by omega⟩⟩
              case round =>
                obtain ⟨d, rfl, hbp, hownp, hd⟩ := hrel
                clear hbq hownq hown hbw
                by_cases hd16 : d < 16
                · have dd : decide ((d : Int) < 16) = true := by simp; omega
                  have hix2 := vidx16k d hd16 .i64
                  by_cases he : hexd d = ch
                  · have en : (((hexd d).toNat : Int) != (ch.toNat : Int)) = false := by rw [he]; simp
                    have ed : ((d : Int) == 16) = false := by simp; omega
                    obtain ⟨y1, y2, y3, HN⟩ := pr_next hmid.out HCH.out.1 HCH.out.2 he hd16 HK1.out
                    have HNM2 := hid HN
                    clear hd he hd16 HN hmid
                    as_aux_lemma =>
                    go_wp2_with fail
                    go_quiet (fail)
                    go_wp2
                    rw [y1, y2]
                    exact ⟨⟨q + 1, 16 * cc + (d : Int), kz + 1, rfl, rfl, bdN _ hbp, hownp, hid HNM2.out.1⟩, HNM2.out.2⟩
                  · have en : (((hexd d).toNat : Int) != (ch.toNat : Int)) = true := by
                      simp
                      intro h
                      exact he (UInt8.toNat_inj.1 (by omega))
                    obtain ⟨x1, x2, x3⟩ := pr_d hd16
                    have HX2 := hid x2
                    have HX3 := hid x3
                    have HN : Hid (d + 1 ≤ 16 ∧ ∀ e, e < d + 1 → hexd e ≠ ch) := hid ⟨hd16, fun e h => by
                      rcases Nat.lt_or_ge e d with h2 | h2
                      · exact hd.out.2 e h2
                      · have : e = d := by omega
                        rw [this]; exact he⟩
                    clear hd hd16 he x2 x3
                    as_aux_lemma =>
                    go_wp2_with fail
                    go_quiet (fail)
                    go_wp2
                    try rw [x1]
                    rw [HX2.out]
                    exact ⟨⟨d + 1, rfl, bdN _ hbp, hownp, HN⟩, HX3.out⟩
                · have hd2 : d = 16 := by have := hd.out; omega
                  have HR := hid (HREST.out (fun s _ e => by
                    rw [← HLM.out] at e
                    injection e with _ e
                    obtain ⟨t, ht, hte⟩ := hex2_all s ch (by rw [← e]; exact List.mem_of_getElem? HCH.out.1)
                    exact hd.out.2 t (by omega) hte.symm))
                  subst hd2
                  have B4 := hid (B3.bel hbp B3.lt)
                  have hbel4 := hbel3.trans (hbp.mono hbel3.size)
                  clear hd hd16 B3
                  go_wp2_with fail
                  go_quiet (fail)
                  have B5 : Blk (wr.drewN nq) w.heap.size 25 #[.int .i64 0, .int .i64 0, .string ⟨#[]⟩, .int .u64 0] := B4.out
                  have hbel5 := bdN nq hbel4
                  clear B4 hbel4 hbp hownp
                  generalize wr.drewN nq = W5 at *
                  obtain ⟨p0, p1, p2, p3, pf⟩ := Blk.v4 B5
                  clear B5
                  go_wp2
                  refine bodyPost_ret (v := .tuple #[(.agg #[.int .i64 (0), .int .i64 (0), .string (str ([])), .int .u64 ((0 : Nat) : Int)]), .bool false]) (by simp [results, Tryz.results21, go_sem, p0, p1, p2, p3, str_e]) rfl ?_
                  exact ⟨by rw [HR.out]; rfl, bel4 hbel5 (Nat.le_refl _) _ _ _ _⟩
            · obtain ⟨x, y, x16, y16, hcc, g1x, g2y, dk⟩ := pr_two hmid.out hq
              obtain ⟨v, hv⟩ : ∃ v, v = 16 * x + y := ⟨_, rfl⟩
              obtain rfl : cc = (v : Int) := by omega
              have e6 := fh_256 hv x16 y16
              have e7 := pr_u8 hv x16 y16
              have wz := pr_z hh.out.1 HJ.out HM.out.2.1
              have hj64 : j ≤ 64 := by have := HJ.out; have := HM.out; omega
              have HS2 : Hid (hex2 (b ++ [UInt8.ofNat v]) = m.take (2 * (j + 1)) ∧ (b ++ [UInt8.ofNat v]).length = j + 1) := hid ⟨by rw [hv]; exact hex2_step hh.out.2.2.1 g1x g2y x16 y16, by simp [hh.out.2.2.2]⟩
              have HV : Hid (v < 256) := hid (by omega)
              have HZ := hid (pr_m (L := l.length) hh.out.1 HJ.out HM.out.2.2)
              have hbase := hbq.size
              have HJ64 := hid hj64
              clear hh hmid hq hcc g1x g2y x16 y16 hv hj64 hown hbw
              go_wp2_with (at_builtin; refine wpList_app1 _ rfl _ _ 36 _ rfl w3.heap.size 5 (.int .u8 0) 1 Tryz.underlying36 Tryz.infoU8 rfl _ _ _ _ rfl hownq.out _ rfl rfl (fh_l1 HJ64.out) (fh_l2 HJ64.out) hbase ?_)
              intro A2 c2 w5 hc2 hown2 _ hb5 hbs5
              have HO2 : Hid (w5.ownsRow w3.heap.size 5 1 (.slice A2 (j + 1) c2) (j + 1) (bs (b ++ [UInt8.ofNat v]))) := hid (by rw [fh_bs HV.out]; exact hown2)
              have hb6 := hbq.trans hb5
              clear hown2 hownq hbq hb5
              go_wp2
              try rw [wz]
              exact ⟨⟨j + 1, c2, A2, b ++ [UInt8.ofNat v], z + 2, rfl, rfl, hb6, HO2, hid ⟨HZ.out.1, HJ.out, HS2.out⟩⟩, HZ.out.2⟩
        · have dz := pr_ge (L := l.length) hh.out.1 hj hh.out.2.1 HM.out.2.2
          have HR : Hid (r = some (3, 0, b, 0)) := hid (by
            rw [HP.out, ← HLM.out]
            exact vp_bytes (by have := hh.out; have := HM.out; omega) (by rw [hh.out.2.2.1, List.take_of_length_le (by have := hh.out; have := HM.out; omega)]))
          have hcv := run_str (P := Tryz.prog) (c := c) 36 9 5 Tryz.underlying36 Tryz.underlying5 Tryz.underlying9 (Bts.own hown.out)
          have B4 := B3.bel hbw B3.lt
          clear p0 p1 p2 p3 pf
          obtain ⟨p0, p1, p2, p3, pf⟩ := Blk.v4 B4
          have hbel4 := hbel3.trans (hbw.mono hbel3.size)
          clear hh hj hown B3 B4
          go_wp2
          refine bodyPost_ret (v := .tuple #[(.agg #[.int .i64 (3), .int .i64 (0), .string (str (b)), .int .u64 ((0 : Nat) : Int)]), .bool true]) (by simp [results, Tryz.results21, go_sem, p0, p1, p2, p3]) rfl ?_
          exact ⟨by rw [HR.out]; rfl, bel4 hbel4 (Nat.le_refl _) _ _ _ _⟩
    · have HR : Hid (r = some (1, n, [], 0)) := hid (by rw [HP.out]; exact vp_int n1 n2 (hok rfl))
      clear hok hall n1 n2 B3
      go_wp2
      refine bodyPost_ret (v := .tuple #[(.agg #[.int .i64 (1), .int .i64 (n), .string (str ([])), .int .u64 ((0 : Nat) : Int)]), .bool true]) (by simp [results, Tryz.results21, go_sem, p0, p1, p2, p3, str_e]) rfl ?_
      exact ⟨by rw [HR.out]; rfl, bel4 hbel3 (Nat.le_refl _) _ _ _ _⟩
end Go.Proofs.YtomgpkklbhdgiaaGreatDoor
